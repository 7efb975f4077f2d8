/-
  area.write, whole.
-/
import Derived.Test.YtbnokhaimcpggaaEj
import Derived.Deep.Upon
namespace Go.Proofs
open Go.RowKit Go.Dk
theorem Dk.wpList_app {P : Program} {ops : Array Oper} {rest : List Oper} {o : Oper} {a : Act} {w w' : World} {Q : Exit → Act → World → Prop} (hgd : o.guard = none) (s x : Operand) (t : TypeId)
    (ho : o.op = .call { callee := .builtin .append, args := #[s, x], argTypes := #[t, t] }) {u1 u2 v : Value} (hs : a.eval s = u1) (hx : a.eval x = u2)
    (hr : (Builtin.append_ #[t, t] o.type #[u1, u2]).run P w = .ok v w') (h : wpList P ops Q rest (a.put o.dst v) w') : wpList P ops Q (o :: rest) a w := by
  refine wpList_plain hgd fun K hK => ?_
  unfold Oper.wp execOp
  simp only [ho, resolve, invoke, builtin, Sem.run_bind, Sem.run_pure, Result.andThen_ok, List.map_toArray, List.map_cons, List.map_nil, hs, hx, hr]
  exact hK _ _ h
theorem Try.app_row {w : World} {G P B0 : Nat} {B b : List UInt8} {v : Value} (hG : w.heap[G]? = some (.cells (Lib.byteCells B).toArray 5 (0, 0))) (hB : B.length = 64) (hP : P ≤ 64) (hv : Dk.Src w v b) (hb : b.length < 1000000) (hG0 : B0 ≤ G) (ty : TypeId) :
    ∃ g c w', (Builtin.append_ #[22, 22] ty #[.slice (some ⟨G, 0, none⟩) P 64, v]).run Try.prog w = .ok (.slice (some ⟨g, 0, none⟩) (P + b.length) c) w' ∧ B0 ≤ g ∧ Dk.Row w' g (B.take P ++ b) ∧ P + b.length ≤ c ∧ Below B0 w w' := by
  have hGl : G < w.heap.size := Dk.block_lt hG
  obtain ⟨i0, hi0, hz0, hz1, hz2⟩ := info_parts Try.info_u8
  have hown : w.ownsRow B0 5 1 (.slice (some ⟨G, 0, none⟩) P 64) P (Lib.byteCells (B.take P)) := by
    refine ⟨by rw [Dk.byteCells_len, List.length_take]; omega, .inr ⟨G, 64, _, rfl, hG0, hG, hP, by unfold maxLen; omega, by rw [List.size_toArray, Dk.byteCells_len, hB], ?_⟩⟩
    simp only [Lib.byteCells, List.map_take, Nat.mul_one]
  obtain ⟨ad, cap, rfl, hcl⟩ := hv
  cases ad with
  | none =>
    have hb0 : b = [] := by
      rcases hcl with h | ⟨sb, so, h, _⟩
      · exact h
      · cases h
    subst hb0
    have := run_append_nothing (P := Try.prog) w 22 22 ty 5 i0 Try.underlying22 hi0 (some ⟨G, 0, none⟩) P 64 hP (.slice none 0 cap) (Src.ofNil w Try.underlying22 cap)
    refine ⟨G, 64, w, this, hG0, ⟨hGl, fun j u hj => ?_⟩, hP, Below.refl _ _⟩
    rw [cell_of_row _ _ _ _ _ _ hG, List.getElem?_toArray]
    simp only [List.append_nil, Lib.byteCells, List.map_take, List.getElem?_take] at hj ⊢
    split at hj
    · exact hj
    · cases hj
  | some a =>
    have hnews : ∀ j u, (Lib.byteCells b)[j]? = some u → w.cell? (a.add j) = some u := by
      rcases hcl with rfl | ⟨sb, so, e, _, h2⟩
      · intro j u hj; simp [Lib.byteCells] at hj
      · cases e
        intro j u hj
        rw [Addr.add_mid]
        exact h2 j u hj
    obtain ⟨v', w', hr, h2, h3, h4⟩ := run_append_own (P := Try.prog) (w := w) B0 22 ty 5 i0 _ 1 1 Try.underlying22 hi0 hz0 hz1 hz2 rfl (by omega) (.slice (some ⟨G, 0, none⟩) P 64) P _ hown a b.length cap (Lib.byteCells b) (by rw [Dk.byteCells_len, Nat.mul_one]) hnews (fun u hu => by obtain ⟨c, _, rfl⟩ := List.mem_map.1 hu; rfl) (by unfold maxLen; omega) (by omega) (by omega)
    have e : Lib.byteCells (B.take P) ++ Lib.byteCells b = Lib.byteCells (B.take P ++ b) := by simp only [Lib.byteCells, List.map_append]
    rw [e] at h2
    rcases h2.2 with ⟨e1, _⟩ | ⟨g, c, cur, e1, hb1, hg1, hcap, hmax, hcs, htk⟩
    · have := (h4.1 e1).1; cases this
    · refine ⟨g, c, w', by rw [hr, e1], hb1, ⟨Dk.block_lt hg1, fun j u hj => ?_⟩, hcap, (Below.refl B0 w).grown h3 (by omega) (fun k hk => (hown.lt k hk).1)⟩
      rw [cell_of_row _ _ _ _ _ _ hg1, ← Array.getElem?_toList]
      rw [← htk, List.getElem?_take] at hj
      split at hj
      · exact hj
      · cases hj
set_option maxRecDepth 20000 in
set_option maxHeartbeats 4000000 in
theorem Try.awrite_any {w : World} {own : Nat → Prop} {x : Nat} {s : DS} (h : Try.Dsk w own x s) {q : Nat} (hn : 2 ≤ s.n) (side : Nat) (hs : side ≤ 1) (p : Nat) (hp : p < 64 * half s.n) (b : List UInt8) (hpL : p + b.length ≤ 64 * half s.n)
    (hc : s.Can (q + span s.n p (p + b.length))) (v : Value) (hv : Dk.Src w v b) :
    Calls Try.prog 55 #[Dk.arV x side, .int .i64 p, v] w fun e w' => e = .returned (.bool (s.into side p b).2) ∧ Try.Chg own w w' x (s.into side p b).1 := by
  obtain ⟨hvl, hn0, hn1⟩ := h.len
  have hhl := Dk.half_le hn1
  have hbl := Dk.ablk_lt (side := side) hn1 hs hp
  have hbb := blk_length hvl hbl
  have hbk : ∀ W, Below w.heap.size w W → Calls Try.prog 77 #[.agg #[.pointer (some ⟨x, 0, none⟩), .int .i64 side], .int .i64 p] W _ := fun W hW => Try.ablock_any (h.below hW) hn side hs p (by omega)
  have hsz : ∀ W, Below w.heap.size w W → Calls Try.prog 52 #[.agg #[.pointer (some ⟨x, 0, none⟩), .int .i64 side]] W _ := fun W hW => Try.asize_any (h.below hW) hn side
  have hrd : ∀ W, Below w.heap.size w W → Calls Try.prog 32 #[.pointer (some ⟨x, 0, none⟩), .int .i64 (ablk s.n side p)] W _ := fun W hW => by
    obtain ⟨l, t, V, hm, hf⟩ := (h.below hW).ex
    exact Try.read_ok hm rfl hc.dead _ hbl
  have hlp : ∀ W1, Below w.heap.size w W1 → ∀ bx g, Try.Box W1 bx x side → w.heap.size ≤ bx → Dk.Row W1 g ((blk s.view (ablk s.n side p)).take (p % 64) ++ b) → w.heap.size ≤ g → _ := fun W1 hW1 bx g hbx hbxw hr hgw =>
    Try.awrite_loop h.lt (h.below hW1) (q := q) hn side hs p hp b.length hpL hc bx g _ hbx hbxw hr hgw (by rw [List.length_append, List.length_take, hbb]; omega)
  have hchg0 : ∀ W1, Below w.heap.size w W1 → Try.Chg own W1 W1 x s := fun W1 hW1 => Try.Chg.refl (h.below hW1)
  have hbox0 : Try.Box (w.alloc (.cells #[.pointer (some ⟨x, 0, none⟩), .int .i64 side] 98)) w.heap.size x side := heap_alloc_new w _
  have hb0 := Dk.belowA w (.cells #[.pointer (some ⟨x, 0, none⟩), .int .i64 side] 98)
  have c0 := hbox0.c0
  have c1 := hbox0.c1
  have hvs := fun W (hW : Below w.heap.size w W) => hv.below hW
  have qm : (p : Int) % 64 = ((p % 64 : Nat) : Int) := by omega
  have qm1 : (p : Int) - ((p % 64 : Nat) : Int) = ((64 * (p / 64) : Nat) : Int) := by omega
  have qm3 : (p : Int) - ((64 * (p / 64) : Nat) : Int) = ((p % 64 : Nat) : Int) := by omega
  have qm2 : p % 64 < 64 := Nat.mod_lt _ (by omega)
  have hbL : b.length < 1000000 := by omega
  obtain ⟨ad, cap, rfl, _⟩ := hv
  unfold DS.into
  generalize ablk s.n side p = I at *
  generalize hB : blk s.view I = B at *
  generalize hL : b.length = L at *
  have hRl : (B.take (p % 64) ++ b).length = p % 64 + L := by rw [List.length_append, List.length_take, hbb, hL]; omega
  generalize hSt : 64 * (p / 64) = St at *
  have hSp : St ≤ p := by omega
  have HSt : Hid (64 * (p / 64) = St) := hSt
  clear hSt
  generalize hP : p % 64 = P at *
  generalize hR : B.take P ++ b = R at *
  obtain ⟨M, hM⟩ : ∃ M : Nat, M = min (p + L) (64 * half s.n - 1) := ⟨_, rfl⟩
  have qM : min ((p : Int) + (L : Int)) (64 * ((half s.n : Nat) : Int) - 1) = (M : Int) := by omega
  have hNe : span s.n p (p + L) = M / 64 - p / 64 + 1 := by unfold span; rw [hM]
  obtain ⟨N, hN⟩ : ∃ N, N = span s.n p (p + L) := ⟨_, rfl⟩
  rw [← hN] at hNe hlp hc ⊢
  have hst := HSt.out
  have hMp : p ≤ M := by omega
  have hkN : ∀ k : Nat, St + 64 * k ≤ M ↔ k < N := fun k => by omega
  have HP : Hid (p % 64 = P) := hP
  have HR : Hid (B.take P ++ b = R) := hR
  have HL : Hid (b.length = L) := hL
  clear h hB hP hR hL hM hN hst hNe
  unfold Dk.arV
  go_enter Try.func55, Try.ntmps55
  go_wp2
  go_cut [8, 9] (fun r e wx => e = .int .i64 0 ∧ ∃ G, r = .slice (some ⟨G, 0, none⟩) 64 64 ∧ w.heap.size < G ∧ wx.heap[G]? = some (.cells (Lib.byteCells B).toArray 5 (0, 0)) ∧ Try.Box wx w.heap.size x side ∧ Below w.heap.size w wx)
  case first =>
    go_region_with (first
      | (go_at_call 77; refine (hbk _ (by first | exact hb0 | exact hb0.drew)).mono ?_; rintro e w2 ⟨rfl, h2⟩; have hb2 : Below w.heap.size w w2 := hb0.drew.trans (h2.mono hb0.size); have d0 := Dk.cellB h2 (Dk.block_lt hbox0) c0)
      | (go_at_call 32; refine (hrd _ hb2).mono ?_; rintro e w3 ⟨rfl, h3, h3b⟩)
      | fail)
    all_goals
      go_wp2
      go_meet
      case rel => exact ⟨rfl, _, rfl, Nat.lt_of_lt_of_le (Dk.block_lt hbox0) h2.size, h3, ((hbox0.below (Below.refl _ _).drew).below h2).below h3b, hb2.trans (h3b.mono hb2.size)⟩
  case rest =>
    obtain ⟨rfl, G, rfl, hG, h3, hbx3, hb3⟩ := hcut
    clear hbk hrd c0 c1 hb0 hbox0
    obtain ⟨g, c, w4, hap, hg4, hr4, hc4, hb4⟩ := Try.app_row (B0 := w.heap.size + 1) h3 hbb (Nat.le_of_lt qm2) (hvs wc hb3) (by rw [HL.out]; exact hbL) (by omega) 22
    rw [HL.out] at hap hc4
    rw [HR.out] at hr4
    have hbx4 : Try.Box w4 w.heap.size x side := (hb4.block _ (by omega)).trans hbx3
    have hb4' : Below w.heap.size w w4 := hb3.trans (hb4.mono (by omega))
    have e0 := hbx4.c0
    have e1 := hbx4.c1
    clear hvs hbx3 h3 hb3 hb4
    go_wp2_with (first
      | (at_builtin; refine Dk.wpList_app rfl _ _ 22 rfl rfl rfl hap ?_)
      | (go_at_call 52; refine (hsz _ hb4').mono ?_; rintro e w5 ⟨rfl, h5⟩)
      | fail)
    have hb5 : Below w.heap.size w w5 := hb4'.trans (h5.mono hb4'.size)
    have hbx5 := hbx4.below h5
    have hr5 := hr4.below h5
    have hlp5 := hlp w5 hb5 _ g hbx5 (Nat.le_refl _) hr5 (by omega)
    have hch5 := hchg0 w5 hb5
    clear hsz hlp hchg0 hap hbx4 e0 e1 hr4 hb4' h5 hbb hvl
    go_loopw [10, 12] (fun r i wr => ∃ k : Nat, k ≤ N ∧ i = .int .i64 (St + 64 * k : Nat) ∧ (∃ ad : Addr, r = .slice (some ad) (P + L - 64 * k) (c - min (64 * k) (P + L)) ∧ (64 * k < P + L → ad = ⟨g, 64 * k, none⟩)) ∧ (s.run (chunks k I R)).2 = true ∧ Try.Chg own w5 wr x (s.run (chunks k I R)).1) (fun _ i _ => M + 128 - (intOf i).toNat)
    case atStart => exact ⟨0, by omega, rfl, ⟨⟨g, 0, none⟩, by simp, fun _ => rfl⟩, rfl, hch5⟩
    case round =>
      obtain ⟨k, hk, rfl, ⟨ad2, rfl, had⟩, hrk, hch⟩ := hrel
      clear hch5
      by_cases hkn : k < N
      · have hat : ((St + 64 * k : Nat) : Int) ≤ (M : Int) := by have := (hkN k).2 hkn; omega
        have hat2 : St + 64 * k ≤ M := (hkN k).2 hkn
        obtain ⟨hbk2, hwt2, hbxr⟩ := hlp5 k hkn hrk wr hch
        rw [hRl] at hwt2
        have f0 := hbxr.c0
        have f1 := hbxr.c1
        have hbr := Below.refl wr.heap.size wr
        have hlc : P + L - 64 * k ≤ c - min (64 * k) (P + L) := by omega
        obtain ⟨nn, hnn⟩ : ∃ nn, nn = min (P + L - 64 * k) 64 := ⟨_, rfl⟩
        rw [← hnn] at hwt2
        have hwt3 := fun W hW c => hwt2 W hW c ad2 had
        obtain ⟨l, hl⟩ : ∃ l, l = P + L - 64 * k := ⟨_, rfl⟩
        obtain ⟨c', hc'⟩ : ∃ c', c' = c - min (64 * k) (P + L) := ⟨_, rfl⟩
        rw [← hl] at hnn hlc
        rw [← hc'] at hlc
        simp only [← hl, ← hc']
        have qn : min (l : Int) 64 = (nn : Int) := by omega
        have hnl : nn ≤ l := by omega
        have HN1 : Hid (nn = min l 64) := hnn
        have HN2 : Hid (l = P + L - 64 * k) := hl
        have HN3 : Hid (c' = c - min (64 * k) (P + L)) := hc'
        have HN4 : Hid (64 * k < P + L → ad2 = ⟨g, 64 * k, none⟩) := had
        generalize hat3 : St + 64 * k = At at *
        have HAT : Hid (St + 64 * k = At) := hat3
        clear hlp5 hkN hnn hl hc' had hwt2 hat3
        go_wp2
        go_cut [62] (fun f wx => f = .bool (!(s.run (chunks (k + 1) I R)).2) ∧ Try.Chg own w5 wx x (s.run (chunks (k + 1) I R)).1)
        case first =>
          go_region_with (first
            | (go_at_call 77; refine (hbk2 _ (by first | exact hbr | exact hbr.drew)).mono ?_; rintro e w6 ⟨rfl, h6⟩; have hb6 : Below wr.heap.size wr w6 := hbr.drew.trans h6; have d6 := Dk.cellB h6 (Dk.block_lt hbxr) f0)
            | (go_at_call 49; refine (hwt3 _ hb6 _).mono ?_; rintro e w7 ⟨rfl, h7⟩)
            | fail)
          all_goals
            go_wp2
            go_meet
            case rel => exact ⟨rfl, h7⟩
        case rest =>
          obtain ⟨rfl, h7⟩ := hcut
          clear hbk2 hwt3 f0 f1
          cases hr1 : (s.run (chunks (k + 1) I R)).2
          · go_wp2
            go_ret
            have hN2 := run_fail (c := N) (by omega) hr1
            rw [hN2, hr1]
            exact ⟨rfl, Try.Chg.pre hb5 h7⟩
          · go_wp2
            go_roundw
            case rel => 
              have n1 := HN1.out
              have n2 := HN2.out
              have n3 := HN3.out
              have n4 := HN4.out
              refine ⟨k + 1, by omega, by rw [← HAT.out]; go_num, ?_, hr1, h7⟩
              by_cases hcn : c' = nn
              · simp only [hcn, if_true]
                refine ⟨ad2, ?_, fun e => by omega⟩
                congr 1 <;> omega
              · simp only [hcn, if_false]
                refine ⟨ad2.add nn, ?_, fun e => ?_⟩
                · congr 1 <;> omega
                · rw [n4 (by omega), Addr.add_mid]
                  congr 1; omega
            case measure => simp [intOf]; omega
      · have hat : ¬ ((St + 64 * k : Nat) : Int) ≤ (M : Int) := fun e => hkn ((hkN k).1 (by omega))
        have hkk : k = N := by omega
        generalize St + 64 * k = At at *
        subst hkk
        go_wp2
        go_ret
        exact ⟨rfl, Try.Chg.pre hb5 hch⟩
end Go.Proofs
