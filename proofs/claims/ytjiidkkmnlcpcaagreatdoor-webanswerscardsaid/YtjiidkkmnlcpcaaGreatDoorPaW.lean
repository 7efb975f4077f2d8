/-
  Laid together by packg.py of WtA WtB WtC WtE.
-/
import Derived.Test.YtjiidkkmnlcpcaaGreatDoorPNl
import Derived.Test.YtjiidkkmnlcpcaaGreatDoorPaZ
import Derived.Test.YtjiidkkmnlcpcaaGreatDoorPaH
import Derived.ArgAppend
import Derived.Laws.AppendOwn
namespace Go.Wb
open Go.RowKit Go.Proofs Go.Wi
theorem still_next (X : List UInt8) (i : Nat) (hi : i < X.length) : (List.replicate i 77 ++ X.drop i).set i 77 = List.replicate (i + 1) (77 : UInt8) ++ X.drop (i + 1) := by
  rw [List.set_append_right _ _ (by rw [List.length_replicate]; omega), List.length_replicate, Nat.sub_self, List.drop_eq_getElem_cons hi, List.set_cons_zero, List.replicate_succ', List.append_assoc]
  rfl
theorem still_at (X : List UInt8) (i : Nat) (hi : i < X.length) : (List.replicate i 77 ++ X.drop i)[i]? = some X[i] := by
  rw [List.getElem?_append_right (by rw [List.length_replicate]; omega), List.length_replicate, Nat.sub_self, List.getElem?_drop, Nat.add_zero, List.getElem?_eq_getElem hi]
theorem Rb.keepN {w : World} {g : Nat} {l : List UInt8} (h : Rb w g l) (n : Nat) : Rb (w.drewN n) g l := ⟨h.lt, h.cell, h.fz⟩
/-- What is to be answered of a response. -/
def ansP (s : List UInt8) : Nat × List (List UInt8 × List UInt8) × List UInt8 × Bool × Nat :=
  if whole (rd newRes s).1 then ((rd newRes s).1.status, (rd newRes s).1.headers, (rd newRes s).1.body, (rd newRes s).1.last, (rd newRes s).2) else (0, [], [], false, 0)
end Go.Wb
namespace Go.Proofs
open Go.RowKit Go.Wi Go.Wb
set_option maxRecDepth 20000 in
set_option maxHeartbeats 1000000 in
theorem Tryz.still_any {w : World} {g : Nat} (s : List UInt8) (hs : s.length ≤ 140737488355000) (h : Rb w g (s ++ List.replicate 8 201)) :
    Calls Tryz.prog 8 #[.slice (some ⟨g, 0, none⟩) (s.length + 8) (s.length + 8), .string ⟨s.toArray⟩] w fun e w' => e = .returned (.bool true) ∧ Rb w' g (List.replicate (s.length + 8) 77) ∧ Wo (fun k => k = g) w w' := by
  have hz := text_size s
  obtain ⟨N, hN⟩ : ∃ N : Nat, s.length + 8 = N := ⟨_, rfl⟩
  obtain ⟨X, hX⟩ : ∃ X, s ++ List.replicate 8 (201 : UInt8) = X := ⟨_, rfl⟩
  have hXl : X.length = N := by rw [← hX, List.length_append, List.length_replicate]; exact hN
  have HXL : Hid (X.length = N) := hXl
  have HXA : Hid (∀ i (_ : i < s.length), X[i]? = some s[i]) := fun i hi => (by rw [← hX, List.getElem?_append_left hi, List.getElem?_eq_getElem hi])
  have HXB : Hid (∀ i, s.length ≤ i → i < N → X[i]? = some 201) := fun i h1 h2 => (by rw [← hX, List.getElem?_append_right h1, List.getElem?_replicate, if_pos (by omega)])
  have HN : Hid (s.length + 8 = N) := hN
  have hN2 : N ≤ 140737488355328 := by omega
  rw [hX] at h
  have HR : Hid (Rb w g X) := h
  rw [hN]
  clear hN h hX hXl
  go_enter Tryz.func8, Tryz.ntmps8
  go_wp2
  go_loopw [5, 6] (fun kv iv wr => kv = .bool true ∧ ∃ i : Nat, iv = .int .i64 i ∧ i ≤ N ∧ Rb wr g (List.replicate i 77 ++ X.drop i) ∧ Wo (fun k => k = g) w wr) (fun _ iv _ => N - (intOf iv).toNat)
  case atStart => exact ⟨rfl, 0, rfl, Nat.zero_le _, HR.out, Wo.refl _ _⟩
  case round =>
    clear HR
    obtain ⟨rfl, i, rfl, hi, hr, hw⟩ := hrel
    have HW : Hid (Wo (fun k => k = g) w wr) := hw
    have HRR : Hid (Rb wr g (List.replicate i 77 ++ X.drop i)) := hr
    clear hw hr
    by_cases hlt : i < N
    · have q : (i : Int) < (N : Int) := by omega
      have HIX : Hid (i < X.length) := (by show _ < _; rw [HXL.out]; exact hlt)
      have HIL : Hid (i < (List.replicate i 77 ++ X.drop i).length) := (by show _ < _; rw [List.length_append, List.length_replicate, List.length_drop]; have := HIX.out; omega)
      obtain ⟨c, hc⟩ : ∃ c, X[i]? = some c := ⟨_, List.getElem?_eq_getElem HIX.out⟩
      have h0 : wr.cell? ⟨g, i, none⟩ = some (.int .u8 (c.toNat : Nat)) := by
        have h1 := still_at X i HIX.out
        rw [List.getElem?_eq_getElem HIL.out] at h1
        rw [List.getElem?_eq_getElem HIX.out] at hc
        rw [HRR.out.at HIL.out, Option.some.inj h1, Option.some.inj hc]
      have f0 := HRR.out.fz i HIL.out
      have HS : Hid (∀ n, Rb ((wr.drewN n).setCell ⟨g, i, none⟩ (.int .u8 77)) g (List.replicate (i + 1) 77 ++ X.drop (i + 1))) := fun n => (by
        have := (HRR.out.keepN n).set HIL.out 77
        rw [still_next X i HIX.out] at this
        exact this)
      have HWS : Hid (∀ n, Wo (fun k => k = g) w ((wr.drewN n).setCell ⟨g, i, none⟩ (.int .u8 77))) := fun n => (HW.out.drewN n).setCell g i _ (.inl rfl)
      clear HRR HW
      by_cases hil : i < s.length
      · have q2 : (i : Int) < (s.length : Int) := by omega
        have hc2 := HXA.out i hil
        rw [hc] at hc2
        obtain hde : s[i]'hil = c := (Option.some.inj hc2).symm
        have hix : ∀ h : i < (⟨s.toArray⟩ : ByteArray).size, (⟨s.toArray⟩ : ByteArray)[i]'h = c := fun h => (at_text hil h).trans hde
        have q3 : ¬ (s.length : Int) ≤ (i : Int) := by omega
        have q4 : decide (s.length ≤ i) = false := decide_eq_false (by omega)
        clear hc hc2 hde
        go_wp2
        go_quiet (fail)
        go_wp2
        go_roundw
        case rel => exact ⟨rfl, i + 1, by simp, by omega, HS.out _, HWS.out _⟩
        case measure => simp [intOf]; omega
      · have q2 : ¬ (i : Int) < (s.length : Int) := by omega
        have q3 : (s.length : Int) ≤ (i : Int) := by omega
        have q4 : decide (s.length ≤ i) = true := decide_eq_true (by omega)
        have hc2 := HXB.out i (by omega) hlt
        rw [hc] at hc2
        obtain rfl : c = 201 := Option.some.inj hc2
        change wr.cell? ⟨g, i, none⟩ = some (.int .u8 201) at h0
        clear hc hc2
        go_wp2
        go_quiet (fail)
        go_wp2
        go_roundw
        case rel => exact ⟨rfl, i + 1, by simp, by omega, HS.out _, HWS.out _⟩
        case measure => simp [intOf]; omega
    · have q : ¬ (i : Int) < (N : Int) := by omega
      have HRF : Hid (Rb wr g (List.replicate N 77)) := (by
        have e : i = N := by omega
        have := HRR.out
        rw [e, List.drop_of_length_le (by rw [HXL.out]; exact Nat.le_refl _), List.append_nil] at this
        exact this)
      clear HRR
      go_wp2
      go_ret
      exact ⟨rfl, HRF.out, HW.out⟩
end Go.Proofs
namespace Go.Wb
open Go.RowKit Go.Proofs Go.Wi
/-- A row with its spare room, in a block of which P holds. -/
def Wk (w : World) (size : Nat) (P : Nat → Prop) (V : Value) (n : Nat) : Prop :=
  (V = .slice none 0 0 ∧ n = 0) ∨ ∃ g cap, V = .slice (some ⟨g, 0, none⟩) n cap ∧ P g ∧ g < w.heap.size ∧ n ≤ cap ∧ ∀ j, j < cap * size → (w.cell? ⟨g, j, none⟩).isSome = true ∧ w.frozen? ⟨g, j, none⟩ = false
theorem Wk.ofRow {w : World} {B n size : Nat} {T : TypeId} {V : Value} {l : List Value} (h : w.ownsRow B T size V n l) (P : Nat → Prop) (hP : ∀ k, V.ownBlock = some k → P k) : Wk w size P V n := by
  rcases h.2 with ⟨h1, h2⟩ | ⟨g, cap, cur, rfl, _, hg, h3, _, h5, _⟩
  · exact .inl ⟨h1, h2⟩
  · refine .inr ⟨g, cap, rfl, hP g rfl, block_lt hg, h3, fun j hj => ⟨?_, frozen_of_row _ _ _ _ _ hg⟩⟩
    rw [cell_of_row _ _ _ _ _ _ hg, Array.getElem?_eq_getElem (by omega)]; rfl
theorem Wk.mono {w : World} {n size : Nat} {P P' : Nat → Prop} {V : Value} (h : Wk w size P V n) (hP : ∀ k, P k → P' k) : Wk w size P' V n := by
  rcases h with h | ⟨g, cap, e, h1, h2⟩
  · exact .inl h
  · exact .inr ⟨g, cap, e, hP g h1, h2⟩
theorem Wk.is {w : World} {n size : Nat} {P : Nat → Prop} {V : Value} (h : Wk w size P V n) : ∃ ad cap, V = .slice ad n cap := by
  rcases h with ⟨rfl, rfl⟩ | ⟨g, cap, rfl, _⟩
  · exact ⟨none, 0, rfl⟩
  · exact ⟨_, _, rfl⟩
theorem Wk.at {w : World} {n size cap : Nat} {ad : Option Addr} {P : Nat → Prop} (h : Wk w size P (.slice ad n cap) n) (hn : 0 < n) : ∃ g, ad = some ⟨g, 0, none⟩ ∧ P g := by
  rcases h with ⟨_, e⟩ | ⟨g, c, e, h1, _⟩
  · omega
  · injection e with e; exact ⟨g, e, h1⟩
theorem Wk.there {w : World} {n size cap g : Nat} {P : Nat → Prop} (h : Wk w size P (.slice (some ⟨g, 0, none⟩) n cap) n) {i : Nat} (hi : i < n) : w.there g (i * size) size := by
  rcases h with ⟨e, _⟩ | ⟨g', c, e, _, _, h3, h4⟩
  · cases e
  · cases e
    intro j hj
    refine h4 _ ?_
    have h5 : (i + 1) * size ≤ cap * size := Nat.mul_le_mul_right size (by omega)
    rw [Nat.add_mul, Nat.one_mul] at h5
    omega
theorem Wk.setCells {w : World} {n size : Nat} {P : Nat → Prop} {V : Value} (h : Wk w size P V n) (b o : Nat) (vs : List Value) : Wk (w.setCells b o vs) size P V n := by
  rcases h with h | ⟨g, cap, e, h1, h2, h3, h4⟩
  · exact .inl h
  · exact .inr ⟨g, cap, e, h1, Nat.lt_of_lt_of_le h2 (setCells_wo b vs o w).size, h3, fun j hj => ⟨World.isSome_setCells b vs o w _ (h4 j hj).1, by rw [World.frozen?_setCells]; exact (h4 j hj).2⟩⟩
theorem Wk.setCell {w : World} {n size : Nat} {P : Nat → Prop} {V : Value} (h : Wk w size P V n) (b o : Nat) (v : Value) : Wk (w.setCell ⟨b, o, none⟩ v) size P V n := h.setCells b o [v]
theorem Wk.keep {w w' : World} {n size : Nat} {P : Nat → Prop} {V : Value} (h : Wk w size P V n) (hk : ∀ k, P k → k < w.heap.size → w'.heap[k]? = w.heap[k]?) : Wk w' size P V n := by
  rcases h with h | ⟨g, cap, e, h1, h2, h3, h4⟩
  · exact .inl h
  · have e2 := hk g h1 h2
    have hlt : g < w'.heap.size := by
      rw [Array.getElem?_eq_getElem h2] at e2
      exact block_lt e2
    exact .inr ⟨g, cap, e, h1, hlt, h3, fun j hj => ⟨by rw [World.cell?_of_block (a := ⟨g, j, none⟩) e2]; exact (h4 j hj).1, (World.frozen?_of_block (a := ⟨g, j, none⟩) e2).trans (h4 j hj).2⟩⟩
/-- Rows with their room are such rows still. -/
def Kw (w w1 : World) : Prop := ∀ size P V n, Wk w size P V n → Wk w1 size P V n
theorem isSome_cells (w : World) (g n : Nat) (h : ∀ j, j < n → (w.cell? ⟨g, j, none⟩).isSome = true) : ∃ l : List Value, l.length = n ∧ ∀ j u, l[j]? = some u → w.cell? ⟨g, j, none⟩ = some u := by
  induction n with
  | zero => exact ⟨[], rfl, fun j u e => by cases e⟩
  | succ n ih =>
    obtain ⟨l, h1, h2⟩ := ih fun j hj => h j (by omega)
    obtain ⟨v, hv⟩ := Option.isSome_iff_exists.1 (h n (by omega))
    refine ⟨l ++ [v], by simp [h1], fun j u e => ?_⟩
    by_cases hj : j < n
    · rw [List.getElem?_append_left (by omega)] at e; exact h2 j u e
    · have hj2 := (List.getElem?_eq_some_iff.1 e).1
      rw [List.length_append, h1] at hj2
      obtain rfl : j = n := by simp at hj2; omega
      rw [List.getElem?_append_right (by omega), h1, Nat.sub_self] at e
      simp at e
      rw [hv, e]
/-- 'append' of one thing, which lies in a block of its own. -/
theorem wk_app {P : Program} {t e : TypeId} {i : TypeInfo} {z : Value} {size bytes : Nat} (ty : TypeId) (ht : P.underlying t = some (.slice e)) (hi : P.info? e = some i) (hz : i.zero = some z) (hz1 : i.size = size) (hz2 : i.bytes = bytes) (hzs : z.cells.size = size) (hs0 : 0 < size)
    {w : World} {PP : Nat → Prop} {V : Value} {n : Nat} (h : Wk w size PP V n) (hP : ∀ k, w.heap.size ≤ k → PP k) (xs : List Value) (g0 : Nat) (hx : xs.length = size)
    (hnb : w.heap[g0]? = some (.cells xs.toArray e (0, 0))) (hone : ∀ u ∈ xs, u.oneCell' = true) (hlen : (n + 1) * bytes ≤ 140737488355328) (hmax : n + 1 ≤ maxLen) :
    ∃ ad cap w1, (Builtin.append_ #[t, t] ty #[V, .slice (some ⟨g0, 0, none⟩) 1 1]).run P w = .ok (.slice ad (n + 1 : Nat) cap) w1 ∧ Wk w1 size PP (.slice ad (n + 1 : Nat) cap) (n + 1) ∧ Wo PP w w1 ∧ Kw w w1 := by
  have hnews : ∀ (j : Nat) u, xs[j]? = some u → w.cell? ((⟨g0, 0, none⟩ : Addr).add j) = some u := World.news_of_block (cs := xs.toArray) hnb
  have grown : ∀ v' w' l, w'.ownsRow w.heap.size e size v' (n + 1) l → w.grownBy w' none → ∃ ad cap, v' = .slice ad (n + 1 : Nat) cap ∧ Wk w' size PP v' (n + 1) ∧ Wo PP w w' ∧ Kw w w' := by
    intro v' w' l ho hg
    have h1 := Wk.ofRow ho PP fun k ek => hP k (ho.lt k ek).1
    obtain ⟨ad, cap, e⟩ := h1.is
    exact ⟨ad, cap, e, h1, (Wo.refl _ w).grown hg (fun k e => by cases e), fun size P V n h => h.keep fun k _ e => hg.block k e (by simp)⟩
  rcases h with ⟨rfl, rfl⟩ | ⟨g, cap, rfl, h1, h2, h3, h4⟩
  · obtain ⟨v', w', hrun, r1, r2, _⟩ := run_append_own (P := P) w w.heap.size t ty e i _ size bytes ht hi hz hz1 hz2 hzs hs0 (.slice none 0 0) 0 [] (World.ownsRow_nil w _ _ _) ⟨g0, 0, none⟩ 1 1 xs (by omega) hnews hone (by simpa using hmax) (by simpa using hlen) (Nat.le_refl _)
    obtain ⟨ad, cap, rfl, g1, g2⟩ := grown v' w' _ r1 r2
    exact ⟨ad, cap, w', hrun, g1, g2⟩
  · by_cases hr : n + 1 ≤ cap
    · have h5 : (n + 1) * size ≤ cap * size := Nat.mul_le_mul_right size hr
      rw [Nat.add_mul, Nat.one_mul] at h5
      have hsp : ∀ j, j < xs.length → (w.cell? ⟨g, 0 + n * i.size + j, none⟩).isSome = true ∧ w.frozen? ⟨g, 0 + n * i.size + j, none⟩ = false := fun j hj => by
        rw [hz1, Nat.zero_add]
        exact h4 _ (by omega)
      have hrun := run_append_room_cells (P := P) w t ty e i ht hi g 0 n cap ⟨g0, 0, none⟩ 1 1 xs (by rw [hz1]; omega) hnews hone hr (fun j hj => (hsp j hj).1) (fun j hj => (hsp j hj).2)
      have hk : Wk w size PP (.slice (some ⟨g, 0, none⟩) (n + 1 : Nat) cap) (n + 1) := .inr ⟨g, cap, rfl, h1, h2, hr, h4⟩
      exact ⟨_, cap, _, hrun, hk.setCells _ _ _, (setCells_wo g xs _ w).mono (fun k e => by rw [e]; exact h1), fun size P V n h => h.setCells _ _ _⟩
    · obtain ⟨l, hl1, hl2⟩ := isSome_cells w g (n * size) fun j hj => (h4 j (by have := Nat.mul_le_mul_right size h3; omega)).1
      obtain ⟨v', w', hrun, r1, r2⟩ := run_append_arg_grows (P := P) w t ty e i _ size bytes ht hi hz hz1 hz2 hzs hs0 ⟨g, 0, none⟩ n cap l hl1 (fun j u hj => by rw [Addr.add_mid, Nat.zero_add]; exact hl2 j u hj) ⟨g0, 0, none⟩ 1 1 xs (by omega) hnews (by omega) hmax hlen
      obtain ⟨ad, cap', rfl, g1, g2⟩ := grown v' w' _ r1 r2
      exact ⟨ad, cap', w', hrun, g1, g2⟩
/-- At a step of a region. -/
theorem appW {P : Program} {ops : Array Oper} {rest : List Oper} {o : Oper} {a : Act} {Q : Exit → Act → World → Prop} {t e : TypeId} {i : TypeInfo} {z : Value} {size bytes : Nat} (hgd : o.guard = none) (s y : Operand)
    (ho : o.op = .call { callee := .builtin .append, args := #[s, y], argTypes := #[t, t] }) (ht : P.underlying t = some (.slice e)) (hi : P.info? e = some i) (hz : i.zero = some z) (hz1 : i.size = size) (hz2 : i.bytes = bytes) (hzs : z.cells.size = size) (hs0 : 0 < size)
    {w : World} {PP : Nat → Prop} {V : Value} {n : Nat} (h : Wk w size PP V n) (hP : ∀ k, w.heap.size ≤ k → PP k) (hs : a.eval s = V) (xs : List Value) (g0 : Nat) (hy : a.eval y = .slice (some ⟨g0, 0, none⟩) 1 1) (hx : xs.length = size)
    (hnb : w.heap[g0]? = some (.cells xs.toArray e (0, 0))) (hone : ∀ u ∈ xs, u.oneCell' = true) (hlen : (n + 1) * bytes ≤ 140737488355328) (hmax : n + 1 ≤ maxLen)
    (hK : ∀ ad cap w1, Wk w1 size PP (.slice ad (n + 1 : Nat) cap) (n + 1) → Wo PP w w1 → Kw w w1 → wpList P ops Q rest (a.put o.dst (.slice ad (n + 1 : Nat) cap)) w1) : wpList P ops Q (o :: rest) a w :=
  wpList_plain hgd fun _ hk' => by
    obtain ⟨ad, cap, w1, hrun, h1, h2, h3⟩ := wk_app o.type ht hi hz hz1 hz2 hzs hs0 h hP xs g0 hx hnb hone hlen hmax
    unfold Oper.wp
    simp [execOp, ho, resolve, invoke, builtin, hs, hy, hrun, Result.andThen]
    exact hk' _ _ (hK ad cap w1 h1 h2 h3)
end Go.Wb
namespace Go.Proofs
open Go.RowKit Go.Wi Go.Wb
section
variable {ops : Array Oper} {rest : List Oper} {o : Oper} {a : Act} {Q : Exit → Act → World → Prop} {w : World} {PP : Nat → Prop} {V : Value} {n : Nat}
theorem Tryz.appW1 (hgd : o.guard = none) (s y : Operand) (ho : o.op = .call { callee := .builtin .append, args := #[s, y], argTypes := #[23, 23] })
    (h : Wk w 1 PP V n) (hP : ∀ k, w.heap.size ≤ k → PP k) (hs : a.eval s = V) (v : Value) (hv : v.oneCell' = true) (g0 : Nat) (hy : a.eval y = .slice (some ⟨g0, 0, none⟩) 1 1)
    (hnb : w.heap[g0]? = some (.cells #[v] 5 (0, 0))) (hlen : n + 1 ≤ 140737488355328)
    (hK : ∀ ad cap w1, Wk w1 1 PP (.slice ad (n + 1 : Nat) cap) (n + 1) → Wo PP w w1 → Kw w w1 → wpList Tryz.prog ops Q rest (a.put o.dst (.slice ad (n + 1 : Nat) cap)) w1) : wpList Tryz.prog ops Q (o :: rest) a w := by
  obtain ⟨i0, hi0, hz0, hz1, hz2⟩ := info_parts Tryz.info8N
  exact appW hgd s y ho Tryz.underlying23 hi0 hz0 hz1 hz2 rfl (by decide) h hP hs [v] g0 hy rfl hnb (fun u hu => by rw [List.mem_singleton.1 hu]; exact hv) (by omega) (by unfold maxLen; omega) hK
theorem Tryz.infoHN : (Tryz.prog.info? 57).map (fun i => (i.zero, i.size, i.bytes)) = some (some (.agg #[.string ByteArray.empty, .string ByteArray.empty]), 2, 32) := by kernel_rfl
theorem Tryz.appW2 (hgd : o.guard = none) (s y : Operand) (ho : o.op = .call { callee := .builtin .append, args := #[s, y], argTypes := #[25, 25] })
    (h : Wk w 2 PP V n) (hP : ∀ k, w.heap.size ≤ k → PP k) (hs : a.eval s = V) (u v : ByteArray) (g0 : Nat) (hy : a.eval y = .slice (some ⟨g0, 0, none⟩) 1 1)
    (hnb : w.heap[g0]? = some (.cells #[.string u, .string v] 57 (0, 0))) (hlen : n + 1 ≤ 4398046511104)
    (hK : ∀ ad cap w1, Wk w1 2 PP (.slice ad (n + 1 : Nat) cap) (n + 1) → Wo PP w w1 → Kw w w1 → wpList Tryz.prog ops Q rest (a.put o.dst (.slice ad (n + 1 : Nat) cap)) w1) : wpList Tryz.prog ops Q (o :: rest) a w := by
  obtain ⟨i0, hi0, hz0, hz1, hz2⟩ := info_parts Tryz.infoHN
  exact appW hgd s y ho Tryz.underlying25 hi0 hz0 hz1 hz2 rfl (by decide) h hP hs [.string u, .string v] g0 hy rfl hnb (fun x hx => by
    simp only [List.mem_cons, List.not_mem_nil, or_false] at hx
    rcases hx with rfl | rfl <;> rfl) (by omega) (by unfold maxLen; omega) hK
end
end Go.Proofs
namespace Go.Proofs
open Go.RowKit Go.Wi Go.Wb
/-- A response that was read of a text, in blocks from lo up to hi. -/
structure Tryz.An (w : World) (lo hi : Nat) (s : List UInt8) (r nv ev : Value) : Prop where
  ex : ∃ ah ch ab cb, r = .agg #[.int .i64 ((ansP s).1 : Nat), .slice ah (ansP s).2.1.length ch, .slice ab (ansP s).2.2.1.length cb, .bool (ansP s).2.2.2.1] ∧ nv = .int .i64 ((ansP s).2.2.2.2 : Nat) ∧
    w.ownsRow lo 57 2 (.slice ah (ansP s).2.1.length ch) (ansP s).2.1.length (hdCells (ansP s).2.1) ∧ w.ownsRow lo 5 1 (.slice ab (ansP s).2.2.1.length cb) (ansP s).2.2.1.length (Lib.byteCells (ansP s).2.2.1) ∧
    (∀ k, (Value.slice ah (ansP s).2.1.length ch).ownBlock = some k → lo ≤ k ∧ k < hi) ∧ (∀ k, (Value.slice ab (ansP s).2.2.1.length cb).ownBlock = some k → lo ≤ k ∧ k < hi)
  ev : (rd newRes s).1.fErr = 0 ∧ ev = .nilIface ∨ (rd newRes s).1.fErr ≠ 0 ∧ ∃ g, lo ≤ g ∧ g < hi ∧ ev = .iface 97 (.pointer (some ⟨g, 0, none⟩)) ∧ w.heap[g]? = some (.cells #[.int .i64 (rd newRes s).1.fAt, .int .i64 (rd newRes s).1.fErr] 63 (0, 0))
theorem Tryz.An.keep {w w' : World} {lo hi : Nat} {s : List UInt8} {r nv ev : Value} (h : Tryz.An w lo hi s r nv ev) (hk : ∀ k, lo ≤ k → k < hi → w'.heap[k]? = w.heap[k]?) : Tryz.An w' lo hi s r nv ev := by
  obtain ⟨ah, ch, ab, cb, h1, h2, h3, h4, h5, h6⟩ := h.ex
  refine ⟨⟨ah, ch, ab, cb, h1, h2, row_keep h3 fun k e => hk k (h5 k e).1 (h5 k e).2, row_keep h4 fun k e => hk k (h6 k e).1 (h6 k e).2, h5, h6⟩, ?_⟩
  rcases h.ev with e | ⟨e, g, g1, g2, g3, g4⟩
  · exact .inl e
  · exact .inr ⟨e, g, g1, g2, g3, (hk g g1 g2).trans g4⟩
theorem Tryz.An.err {w : World} {lo hi : Nat} {s : List UInt8} {r nv ev : Value} (h : Tryz.An w lo hi s r nv ev) : Tryz.Ev w (rd newRes s).1 ev := by
  rcases h.ev with e | ⟨e, g, _, _, g3, g4⟩
  · exact .inl e
  · exact .inr ⟨e, g, g3, g4⟩
/-- What ParseResponse answers is so. -/
theorem Tryz.An.ofPar {w w' : World} {s : List UInt8} {e : Ending} (h : Tryz.Par w w' (rd newRes s).1 (rd newRes s).2 e) : ∃ st ah hn ch ab bn cb la n ev, e = .returned (.tuple #[.agg #[.int .i64 st, .slice ah hn ch, .slice ab bn cb, .bool la], .int .i64 n, ev]) ∧ Tryz.An w' w.heap.size w'.heap.size s (.agg #[.int .i64 st, .slice ah hn ch, .slice ab bn cb, .bool la]) (.int .i64 n) ev ∧ Below w.heap.size w w' := by
  obtain ⟨ah, ch, ab, cb, ev, he, hw, hv⟩ := h.ex
  have hev : (rd newRes s).1.fErr = 0 ∧ ev = .nilIface ∨ (rd newRes s).1.fErr ≠ 0 ∧ ∃ g, w.heap.size ≤ g ∧ g < w'.heap.size ∧ ev = .iface 97 (.pointer (some ⟨g, 0, none⟩)) ∧ w'.heap[g]? = some (.cells #[.int .i64 (rd newRes s).1.fAt, .int .i64 (rd newRes s).1.fErr] 63 (0, 0)) := by
    rcases hv with e | ⟨e, g, g1, g2, g3⟩
    · exact .inl e
    · exact .inr ⟨e, g, g1, block_lt g3, g2, g3⟩
  cases hq : Wb.whole (rd newRes s).1 with
  | true =>
    have ha : ansP s = ((rd newRes s).1.status, (rd newRes s).1.headers, (rd newRes s).1.body, (rd newRes s).1.last, (rd newRes s).2) := by unfold ansP; rw [hq, if_pos rfl]
    rw [hq, if_pos rfl, if_pos rfl] at he
    obtain ⟨r1, r2, _⟩ := hw hq
    refine ⟨_, _, _, _, _, _, _, _, _, _, he, ⟨⟨ah, ch, ab, cb, ?_, ?_, ?_, ?_, ?_, ?_⟩, hev⟩, h.bel⟩
    · rw [ha]
    · rw [ha]
    · rw [ha]; exact r1
    · rw [ha]; exact r2
    · rw [ha]; exact fun k e => r1.lt k e
    · rw [ha]; exact fun k e => r2.lt k e
  | false =>
    have ha : ansP s = (0, [], [], false, 0) := by unfold ansP; rw [hq]; rfl
    rw [hq] at he
    refine ⟨_, _, _, _, _, _, _, _, _, _, he, ⟨⟨none, 0, none, 0, ?_, ?_, ?_, ?_, ?_, ?_⟩, hev⟩, h.bel⟩
    · rw [ha]; rfl
    · rw [ha]; rfl
    · rw [ha]; exact World.ownsRow_nil _ _ _ _
    · rw [ha]; exact World.ownsRow_nil _ _ _ _
    · intro k e; cases e
    · intro k e; cases e
end Go.Proofs
namespace Go.Wb
/-- A response that is held: where it lies, the box behind it, what it was read of. -/
structure It where
  lo : Nat
  hi : Nat
  s : List UInt8
  cs : Array Value
  nv : Value
  ev : Value
theorem Rb.keep {w w' : World} {g : Nat} {l : List UInt8} (h : Rb w g l) (e : w'.heap[g]? = w.heap[g]?) (hs : w.heap.size ≤ w'.heap.size) : Rb w' g l :=
  ⟨Nat.lt_of_lt_of_le h.lt hs, fun j u hu => (World.cell?_of_block (a := ⟨g, j, none⟩) e).trans (h.cell j u hu), fun j hj => (World.frozen?_of_block (a := ⟨g, j, none⟩) e).trans (h.fz j hj)⟩
end Go.Wb
namespace Go.Proofs
open Go.RowKit Go.Wi Go.Wb
/-- Bytes that were lent, twice, and responses that are held. -/
structure Tryz.AW (w0 w : World) (gb gc : Nat) (lb lc : List UInt8) (X : List It) : Prop where
  bel : Below w0.heap.size w0 w
  fb : w0.heap.size ≤ gb
  fc : w0.heap.size ≤ gc
  ne : gb ≠ gc
  rb : Rb w gb lb
  rc : Rb w gc lc
  it : ∀ x ∈ X, gb < x.lo ∧ gc < x.lo ∧ x.lo ≤ x.hi ∧ w.heap[x.hi]? = some (.cells x.cs 27 (0, 0)) ∧ Tryz.An w x.lo x.hi x.s (.agg x.cs) x.nv x.ev
  ap : X.Pairwise fun x y => x.hi < y.lo
section
variable {w0 w w' : World} {gb gc : Nat} {lb lc : List UInt8} {X : List It}
theorem Tryz.AW.below (h : Tryz.AW w0 w gb gc lb lc X) (hb : Below w.heap.size w w') : Tryz.AW w0 w' gb gc lb lc X :=
  ⟨h.bel.trans (hb.mono h.bel.size), h.fb, h.fc, h.ne, h.rb.keep (hb.block _ h.rb.lt) hb.size, h.rc.keep (hb.block _ h.rc.lt) hb.size, fun x hx => by
    obtain ⟨h1, h2, h3, h4, h5⟩ := h.it x hx
    have := block_lt h4
    exact ⟨h1, h2, h3, (hb.block _ this).trans h4, h5.keep fun k _ e => hb.block k (by omega)⟩, h.ap⟩
theorem Tryz.AW.stillB (h : Tryz.AW w0 w gb gc lb lc X) {l : List UInt8} (hr : Rb w' gb l) (hw : Wo (fun k => k = gb) w w') : Tryz.AW w0 w' gb gc l lc X :=
  ⟨Wo.toBelow h.bel hw (fun k e => by rw [e]; exact h.fb) h.bel.size, h.fb, h.fc, h.ne, hr, h.rc.keep (hw.block _ h.rc.lt (fun e => h.ne e.symm)) hw.size, fun x hx => by
    obtain ⟨h1, h2, h3, h4, h5⟩ := h.it x hx
    have := block_lt h4
    exact ⟨h1, h2, h3, (hw.block _ this (by omega)).trans h4, h5.keep fun k _ e => hw.block k (by omega) (by omega)⟩, h.ap⟩
theorem Tryz.AW.stillC (h : Tryz.AW w0 w gb gc lb lc X) {l : List UInt8} (hr : Rb w' gc l) (hw : Wo (fun k => k = gc) w w') : Tryz.AW w0 w' gb gc lb l X :=
  ⟨Wo.toBelow h.bel hw (fun k e => by rw [e]; exact h.fc) h.bel.size, h.fb, h.fc, h.ne, h.rb.keep (hw.block _ h.rb.lt h.ne) hw.size, hr, fun x hx => by
    obtain ⟨h1, h2, h3, h4, h5⟩ := h.it x hx
    have := block_lt h4
    exact ⟨h1, h2, h3, (hw.block _ this (by omega)).trans h4, h5.keep fun k _ e => hw.block k (by omega) (by omega)⟩, h.ap⟩
theorem Tryz.AW.mine {x : It} (h : Tryz.AW w0 w gb gc lb lc (x :: X)) (hw : Wo (fun k => x.lo ≤ k ∧ k < x.hi) w w') : Tryz.AW w0 w' gb gc lb lc X := by
  obtain ⟨f1, f2, f3, f4, f5⟩ := h.it x (List.mem_cons_self ..)
  have fb := h.fb
  refine ⟨Wo.toBelow h.bel hw (fun k e => by have := e.1; omega) h.bel.size, h.fb, h.fc, h.ne, h.rb.keep (hw.block _ h.rb.lt (by omega)) hw.size, h.rc.keep (hw.block _ h.rc.lt (by omega)) hw.size, fun y hy => ?_, (List.pairwise_cons.1 h.ap).2⟩
  obtain ⟨h1, h2, h3, h4, h5⟩ := h.it y (List.mem_cons_of_mem _ hy)
  have h6 := (List.pairwise_cons.1 h.ap).1 y hy
  have := block_lt h4
  exact ⟨h1, h2, h3, (hw.block _ this (by omega)).trans h4, h5.keep fun k e1 e2 => hw.block k (by omega) (by omega)⟩
/-- One more was read, and lies in a box. -/
theorem Tryz.AW.push (h : Tryz.AW w0 w gb gc lb lc X) {w1 : World} {s : List UInt8} {cs : Array Value} {nv ev : Value} (hA : Tryz.An w1 w.heap.size w1.heap.size s (.agg cs) nv ev) (hb : Below w.heap.size w w1) : Tryz.AW w0 (w1.alloc (.cells cs 27)) gb gc lb lc (X ++ [⟨w.heap.size, w1.heap.size, s, cs, nv, ev⟩]) := by
  have hb2 : Below w1.heap.size w1 (w1.alloc (.cells cs 27)) := (Below.refl _ w1).alloc (Nat.le_refl _) _
  have h2 := Tryz.AW.below h (hb.trans (hb2.mono hb.size))
  refine ⟨h2.bel, h2.fb, h2.fc, h2.ne, h2.rb, h2.rc, fun x hx => ?_, List.pairwise_append.2 ⟨h2.ap, List.pairwise_singleton _ _, fun x hx y hy => ?_⟩⟩
  · rcases List.mem_append.1 hx with hx | hx
    · exact h2.it x hx
    · rw [List.mem_singleton.1 hx]
      exact ⟨h.rb.lt, h.rc.lt, hb.size, heap_alloc_new w1 _, hA.keep fun k _ e => hb2.block k e⟩
  · rw [List.mem_singleton.1 hy]
    exact block_lt (h.it x hx).2.2.2.1
end
end Go.Proofs
namespace Go.Wb
theorem ans_small {s : List UInt8} : (ansP s).2.1.length ≤ 32 ∧ (ansP s).2.2.1.length ≤ s.length := by
  have hG := good_newRes.rd s
  unfold ansP
  split
  · refine ⟨hG.1.hl.le, ?_⟩
    have h1 := hG.1.fit.ok.ok.body
    have h2 : (rd newRes s).1.at_ ≤ 0 + (rd newRes s).2 := hG.2.1
    have h3 := hG.2.2
    show (rd newRes s).1.body.length ≤ s.length
    omega
  · exact ⟨Nat.zero_le _, Nat.zero_le _⟩
end Go.Wb
namespace Go.Proofs
open Go.RowKit Go.Wi Go.Wb
set_option maxRecDepth 20000 in
set_option maxHeartbeats 4000000 in
theorem Tryz.mine_any {w : World} {own : Nat → Prop} {ah ab : Option Addr} {hn ch bn cb : Nat} (st : Int) (la : Bool) (hH : Wk w 2 own (.slice ah hn ch) hn) (hB : Wk w 1 own (.slice ab bn cb) bn) (ho : ∀ k, own k → k < w.heap.size) (h1 : hn ≤ 4398046511000) (h2 : bn ≤ 140737488352000) :
    Calls Tryz.prog 10 #[.agg #[.int .i64 st, .slice ah hn ch, .slice ab bn cb, .bool la]] w fun e w' => (∃ v, e = .returned v) ∧ Wo own w w' := by
  obtain ⟨g, hg⟩ : ∃ g, w.heap.size = g := ⟨_, rfl⟩
  go_enter Tryz.func10, Tryz.ntmps10
  go_upto_region 1 with (fail)
  generalize hW : w.alloc _ = W0
  have hb0 : Below w.heap.size w W0 := by rw [← hW]; exact (Below.refl _ w).alloc (Nat.le_refl _) _
  have hx0 : W0.heap[g]? = some (.cells #[.int .i64 st, .slice ah hn ch, .slice ab bn cb, .bool la] 27 (0, 0)) := by rw [← hW, ← hg]; exact heap_alloc_new w _
  clear hW
  obtain ⟨P, hP⟩ : ∃ P : Nat → Prop, P = fun k => own k ∨ g < k := ⟨_, rfl⟩
  have hPo : ∀ k, own k → P k := fun k e => by rw [hP]; exact .inl e
  have HPN : Hid (∀ W : World, W0.heap.size ≤ W.heap.size → ∀ k, W.heap.size ≤ k → P k) := fun W hW k hk => (by rw [hP]; exact .inr (by have := block_lt hx0; omega))
  have HPG : Hid (¬ P g) := fun e => (by rw [hP] at e; rcases e with e | e; have := ho g e; omega; omega)
  have HWO : Hid (∀ W, Wo P W0 W → Wo own w W) := fun W hW => ⟨hW.os.trans hb0.os, hW.tape.trans hb0.tape, hW.output.trans hb0.output, Nat.le_trans hb0.size hW.size, fun k hk hn => (hW.block k (Nat.lt_of_lt_of_le hk hb0.size) (fun e => by rw [hP] at e; rcases e with e | e; exact hn e; omega)).trans (hb0.block k hk)⟩
  have HBX : Hid (∀ W, Wo P W0 W → W.cell? ⟨g, 1, none⟩ = some (.slice ah hn ch) ∧ W.cell? ⟨g, 2, none⟩ = some (.slice ab bn cb)) := fun W hW => (by
    have e := (hW.block g (block_lt hx0) HPG.out).trans hx0
    exact ⟨cell_of_row _ _ 1 _ _ _ e, cell_of_row _ _ 2 _ _ _ e⟩)
  have HH : Hid (Wk W0 2 P (.slice ah hn ch) hn) := (hH.keep fun k _ e => hb0.block k e).mono hPo
  have HB : Hid (Wk W0 1 P (.slice ab bn cb) bn) := (hB.keep fun k _ e => hb0.block k e).mono hPo
  clear hb0 hx0 hH hB hPo hP ho hg
  go_wp2
  go_loopw [2] (fun iv wr => ∃ i : Nat, iv = .int .i64 i ∧ i ≤ bn ∧ Hid (Wo P W0 wr) ∧ Hid (Wk wr 2 P (.slice ah hn ch) hn) ∧ Hid (Wk wr 1 P (.slice ab bn cb) bn)) (fun iv _ => bn - (intOf iv).toNat)
  case atStart => exact ⟨0, rfl, Nat.zero_le _, Wo.refl _ _, HH, HB⟩
  case round =>
    clear HH HB
    obtain ⟨i, rfl, hi, HW, HH, HB⟩ := hrel
    obtain ⟨c1, c2⟩ := HBX.out wr HW.out
    by_cases hlt : i < bn
    · have q : (i : Int) < (bn : Int) := by omega
      obtain ⟨gb, rfl, hgb⟩ := HB.out.at (by omega)
      have ht := HB.out.there hlt 0 (by omega)
      rw [Nat.mul_one, Nat.add_zero] at ht
      obtain ⟨v0, hv0⟩ := Option.isSome_iff_exists.1 ht.1
      have hf0 := ht.2
      have HW2 : Hid (Wo P W0 (wr.setCell ⟨gb, i, none⟩ (.int .u8 77))) := HW.out.setCell gb i _ (.inl hgb)
      have HH2 : Hid (Wk (wr.setCell ⟨gb, i, none⟩ (.int .u8 77)) 2 P (.slice ah hn ch) hn) := HH.out.setCell gb i _
      have HB2 : Hid (Wk (wr.setCell ⟨gb, i, none⟩ (.int .u8 77)) 1 P (.slice (some ⟨gb, 0, none⟩) bn cb) bn) := HB.out.setCell gb i _
      clear ht hgb HW HH HB
      go_wp2
      go_roundw
      case rel => exact ⟨i + 1, by simp, by omega, HW2, HH2, HB2⟩
      case measure => simp [intOf]; omega
    · have q : ¬ (i : Int) < (bn : Int) := by omega
      generalize wr = wa at *
      go_wp2
      go_loopw [3, 4] (fun bv iv wr => ∃ (i m cap : Nat) (ad : Option Addr), iv = .int .i64 i ∧ bv = .slice ad m cap ∧ i ≤ 70 ∧ m = bn + i ∧ Hid (Wo P W0 wr) ∧ Hid (Wk wr 2 P (.slice ah hn ch) hn) ∧ Hid (Wk wr 1 P (.slice ad m cap) m)) (fun _ iv _ => 70 - (intOf iv).toNat)
      case atStart => exact ⟨0, bn, cb, ab, rfl, rfl, by omega, rfl, HW, HH, HB⟩
      case round =>
        clear HW HH HB c1 c2 q hlt hi
        obtain ⟨i, m, cap, ad, rfl, rfl, hi, hm, HW, HH, HB⟩ := hrel
        obtain ⟨c1, c2⟩ := HBX.out wr HW.out
        have hm2 : m + 1 ≤ 140737488355328 := by omega
        have HM : Hid (m = bn + i) := hm
        clear hm
        by_cases hlt : i < 70
        · have q : (i : Int) < 70 := by omega
          have ha : Below wr.heap.size wr (wr.alloc (.cells #[.int .u8 77] 5)) := (Below.refl _ wr).alloc (Nat.le_refl _) _
          have han := heap_alloc_new wr (.cells #[.int .u8 77] 5)
          have HBa : Hid (Wk (wr.alloc (.cells #[.int .u8 77] 5)) 1 P (.slice ad m cap) m) := HB.out.keep fun k _ e => ha.block k e
          have HHa : Hid (Wk (wr.alloc (.cells #[.int .u8 77] 5)) 2 P (.slice ah hn ch) hn) := HH.out.keep fun k _ e => ha.block k e
          have HWa : Hid (Wo P W0 (wr.alloc (.cells #[.int .u8 77] 5))) := HW.out.alloc _
          have HPa : Hid (∀ k, (wr.alloc (.cells #[.int .u8 77] 5)).heap.size ≤ k → P k) := HPN.out _ HWa.out.size
          clear ha HW HH HB
          go_wp2_with (first
            | (refine Tryz.appW1 rfl _ _ rfl HBa.out HPa.out rfl (.int .u8 77) rfl wr.heap.size rfl han hm2 ?_; intro ad2 cap2 w2 hk2 hw2 hq2; have HK2 : Hid (Wk w2 1 P (.slice ad2 (m + 1) cap2) (m + 1)) := hk2; have HW2 : Hid (Wo P W0 w2) := HWa.out.trans hw2; have HH2 : Hid (Wk w2 2 P (.slice ah hn ch) hn) := hq2 _ _ _ _ HHa.out; clear hk2 hw2 hq2)
            | fail)
          go_roundw
          case rel => exact ⟨i + 1, m + 1, cap2, ad2, by simp, by simp, by omega, by have := HM.out; omega, HW2, HH2, HK2⟩
          case measure => simp [intOf]; omega
        · have q : ¬ (i : Int) < 70 := by omega
          generalize wr = we at *
          go_wp2
          go_loopw [5] (fun iv wr => ∃ i : Nat, iv = .int .i64 i ∧ i ≤ hn ∧ Hid (Wo P W0 wr) ∧ Hid (Wk wr 2 P (.slice ah hn ch) hn)) (fun iv _ => hn - (intOf iv).toNat)
          case atStart => exact ⟨0, rfl, Nat.zero_le _, HW, HH⟩
          case round =>
            clear HW HH HB c1 c2 q hlt hi HM hm2
            obtain ⟨i, rfl, hi, HW, HH⟩ := hrel
            obtain ⟨c1, c2⟩ := HBX.out wr HW.out
            by_cases hlt : i < hn
            · have q : (i : Int) < (hn : Int) := by omega
              obtain ⟨gh, rfl, hgh⟩ := HH.out.at (by omega)
              have ht := HH.out.there hlt
              have t0 := ht 0 (by omega)
              have t1 := ht 1 (by omega)
              rw [Nat.add_zero] at t0
              obtain ⟨v0, hv0⟩ := Option.isSome_iff_exists.1 t0.1
              obtain ⟨v1, hv1⟩ := Option.isSome_iff_exists.1 t1.1
              have f0 := t0.2
              have f1 := t1.2
              have HW2 : Hid (Wo P W0 ((wr.setCell ⟨gh, i * 2, none⟩ (.string ⟨#[109, 105, 110, 101]⟩)).setCell ⟨gh, i * 2 + 1, none⟩ (.string ⟨#[109, 105, 110, 101]⟩))) := (HW.out.setCell gh (i * 2) _ (.inl hgh)).setCell gh (i * 2 + 1) _ (.inl hgh)
              have HH2 : Hid (Wk ((wr.setCell ⟨gh, i * 2, none⟩ (.string ⟨#[109, 105, 110, 101]⟩)).setCell ⟨gh, i * 2 + 1, none⟩ (.string ⟨#[109, 105, 110, 101]⟩)) 2 P (.slice (some ⟨gh, 0, none⟩) hn ch) hn) := (HH.out.setCell gh (i * 2) _).setCell gh (i * 2 + 1) _
              clear hgh HW HH ht t0 t1
              go_wp2
              go_roundw
              case rel => exact ⟨i + 1, by simp, by omega, HW2, HH2⟩
              case measure => simp [intOf]; omega
            · have q : ¬ (i : Int) < (hn : Int) := by omega
              have ha : Below wr.heap.size wr (wr.alloc (.cells #[.string ⟨#[109, 105, 110, 101]⟩, .string ⟨#[109, 105, 110, 101]⟩] 57)) := (Below.refl _ wr).alloc (Nat.le_refl _) _
              have han := heap_alloc_new wr (.cells #[.string ⟨#[109, 105, 110, 101]⟩, .string ⟨#[109, 105, 110, 101]⟩] 57)
              have HHa : Hid (Wk (wr.alloc (.cells #[.string ⟨#[109, 105, 110, 101]⟩, .string ⟨#[109, 105, 110, 101]⟩] 57)) 2 P (.slice ah hn ch) hn) := HH.out.keep fun k _ e => ha.block k e
              have HWa : Hid (Wo P W0 (wr.alloc (.cells #[.string ⟨#[109, 105, 110, 101]⟩, .string ⟨#[109, 105, 110, 101]⟩] 57))) := HW.out.alloc _
              have HPa : Hid (∀ k, (wr.alloc (.cells #[.string ⟨#[109, 105, 110, 101]⟩, .string ⟨#[109, 105, 110, 101]⟩] 57)).heap.size ≤ k → P k) := HPN.out _ HWa.out.size
              clear ha HW HH
              go_wp2_with (first
                | (refine Tryz.appW2 rfl _ _ rfl HHa.out HPa.out rfl ⟨#[109, 105, 110, 101]⟩ ⟨#[109, 105, 110, 101]⟩ wr.heap.size rfl han (by omega) ?_; intro ad2 cap2 w2 hk2 hw2 hq2; have HW2 : Hid (Wo P W0 w2) := HWa.out.trans hw2; clear hk2 hw2 hq2)
                | fail)
              go_end0
              exact ⟨⟨_, rfl⟩, HWO.out _ HW2.out⟩
theorem Tryz.mine_law {w : World} {lo hi : Nat} {s : List UInt8} (hl : s.length ≤ 140737488352000) {r nv ev : Value} (h : Tryz.An w lo hi s r nv ev) :
    Calls Tryz.prog 10 #[r] w fun e w' => (∃ v, e = .returned v) ∧ Wo (fun k => lo ≤ k ∧ k < hi) w w' := by
  obtain ⟨ah, ch, ab, cb, rfl, rfl, h3, h4, h5, h6⟩ := h.ex
  have h7 := ans_small (s := s)
  have := Tryz.mine_any (own := fun k => (lo ≤ k ∧ k < hi) ∧ k < w.heap.size) ((ansP s).1 : Nat) (ansP s).2.2.2.1 (Wk.ofRow h3 _ fun k e => ⟨h5 k e, (h3.lt k e).2⟩) (Wk.ofRow h4 _ fun k e => ⟨h6 k e, (h4.lt k e).2⟩) (fun k e => e.2) (by omega) (by omega)
  refine this.mono ?_
  rintro e w' ⟨hv, hw⟩
  exact ⟨hv, hw.mono fun k e => e.1⟩
end Go.Proofs
