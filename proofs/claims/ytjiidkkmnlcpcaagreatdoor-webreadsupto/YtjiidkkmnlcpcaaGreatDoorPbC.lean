/-
  Laid together by packg.py of Nl WtB.
-/
import Derived.Test.YtjiidkkmnlcpcaaGreatDoorPaP
import Derived.Lib.LazyBuf
import Derived.ArgAppend
import Derived.Laws.AppendOwn
namespace Go.Wb
open Go.RowKit Go.Proofs Go.Wi
/-- Bytes in a block of one's own. -/
structure Rb (w : World) (g : Nat) (l : List UInt8) : Prop where
  lt : g < w.heap.size
  cell : ∀ j u, (Lib.byteCells l)[j]? = some u → w.cell? ⟨g, j, none⟩ = some u
  fz : ∀ j, j < l.length → w.frozen? ⟨g, j, none⟩ = false
theorem Rb.at {w : World} {g : Nat} {l : List UInt8} (h : Rb w g l) {i : Nat} (hi : i < l.length) : w.cell? ⟨g, i, none⟩ = some (.int .u8 (l[i].toNat : Nat)) := h.cell i _ (byteCell hi)
theorem Rb.set {w : World} {g : Nat} {l : List UInt8} (h : Rb w g l) {i : Nat} (hi : i < l.length) (c : UInt8) : Rb (w.setCell ⟨g, i, none⟩ (.int .u8 (c.toNat : Nat))) g (l.set i c) := by
  refine ⟨by simpa using h.lt, fun j u hu => ?_, fun j hj => by rw [World.frozen?_setCell]; exact h.fz j (by rw [List.length_set] at hj; exact hj)⟩
  by_cases hji : j = i
  · subst hji
    rw [byteCell (by rw [List.length_set]; exact hi), List.getElem_set_self] at hu
    rw [World.cell?_setCell_same _ _ _ (h.at hi)]
    exact hu
  · rw [World.cell?_setCell_other _ _ _ _ (fun e => hji (by injection e with e1 e2; exact e2.symm))]
    refine h.cell j u ?_
    have hj := (List.getElem?_eq_some_iff.1 hu).1
    rw [byteCells_len, List.length_set] at hj
    rw [byteCell (by rw [List.length_set]; exact hj), List.getElem_set_ne (Ne.symm hji)] at hu
    rw [byteCell hj]
    exact hu
theorem Rb.over {w : World} {g : Nat} {l : List UInt8} (h : Rb w g l) (xs : List UInt8) (hx : xs.length ≤ l.length) : Rb (w.setCells g 0 (Lib.byteCells xs)) g (xs ++ l.drop xs.length) := by
  have hl : (xs ++ l.drop xs.length).length = l.length := by rw [List.length_append, List.length_drop]; omega
  have hbl := byteCells_len xs
  refine ⟨Nat.lt_of_lt_of_le h.lt (setCells_wo g (Lib.byteCells xs) 0 w).size, fun j u hu => ?_, fun j hj => by rw [World.frozen?_setCells]; exact h.fz j (by omega)⟩
  by_cases hj : j < xs.length
  · have := World.cell?_setCells_in g (Lib.byteCells xs) 0 w (fun i hi => by rw [Nat.zero_add, h.at (by omega)]; rfl) j (by omega)
    rw [Nat.zero_add] at this
    rw [this, ← hu, byteCells_app, List.getElem?_append_left (by omega), List.getElem?_eq_getElem]
  · rw [World.cell?_setCells_out g _ _ w _ (fun _ _ => .inr (by show 0 + _ ≤ j; omega))]
    refine h.cell j u ?_
    rw [byteCells_app, List.getElem?_append_right (by omega), byteCells_len] at hu
    simp only [Lib.byteCells, List.getElem?_map, List.getElem?_drop] at hu ⊢
    rw [show xs.length + (j - xs.length) = j by omega] at hu
    exact hu
theorem Rb.bs {w : World} {g : Nat} {l : List UInt8} (h : Rb w g l) {c : Nat} (hc : l.length ≤ c) : Bs w (.slice (some ⟨g, 0, none⟩) l.length c) l :=
  ⟨_, _, rfl, hc, (fun e => by cases e), .inr ⟨g, 0, rfl, h.lt, fun j u hu => by rw [Nat.zero_add]; exact h.cell j u hu⟩⟩
theorem lent_next (s : List UInt8) (i N : Nat) (h1 : s.length ≤ i) (h2 : i < N) : (s ++ (List.replicate (i - s.length) 201 ++ List.replicate (N - i) 0)).set i 201 = s ++ (List.replicate (i + 1 - s.length) (201 : UInt8) ++ List.replicate (N - (i + 1)) 0) := by
  rw [List.set_append_right _ _ (by omega), List.set_append_right _ _ (by rw [List.length_replicate]; omega), List.length_replicate, Nat.sub_self, show N - i = (N - (i + 1)) + 1 by omega, List.replicate_succ, List.set_cons_zero, show i + 1 - s.length = (i - s.length) + 1 by omega, List.replicate_succ', List.append_assoc]
  rfl
end Go.Wb
namespace Go.Proofs
open Go.RowKit Go.Wi Go.Wb
theorem Tryz.szu8N : ∀ w, (Go.sizeOf 5).run Tryz.prog w = .ok 1 w := by
  have : (Tryz.prog.info? 5).map (·.size) = some 1 := by kernel_rfl
  intro w
  cases h : Tryz.prog.info? 5 with
  | none => rw [h] at this; cases this
  | some i =>
    rw [h] at this
    simp at this
    simp [Go.sizeOf, typeInfo, h, this]
theorem Tryz.info8N : (Tryz.prog.info? 5).map (fun i => (i.zero, i.size, i.bytes)) = some (some (.int .u8 0), 1, 1) := by kernel_rfl
theorem Tryz.makeZN {ops : Array Oper} {rest : List Oper} {o : Oper} {a : Act} {Q : Exit → Act → World → Prop} {w : World} (hgd : o.guard = none) (l c : Operand) (hop : o.op = Op.makeSlice 23 l c)
    (L : Int) (n : Nat) (hl : a.eval l = .int .i64 L) (hc : a.eval c = .int .i64 L) (hL : L = (n : Int)) (hn : n ≤ 140737488355328)
    (hK : ∀ w', Rb w' w.heap.size (List.replicate n 0) → Below w.heap.size w w' → wpList Tryz.prog ops Q rest (a.put o.dst (.slice (some ⟨w.heap.size, 0, none⟩) n n)) w') (h0 : 0 < n) : wpList Tryz.prog ops Q (o :: rest) a w := by
  obtain ⟨i0, hi0, hz0, hz1, hz2⟩ := info_parts Tryz.info8N
  refine wpList_make_full w hgd l c 23 hop w.heap.size 5 i0 (.int .u8 0) 1 Tryz.underlying23 hi0 hz0 hz1 .i64 .i64 L L n hl hc hL hL (by rw [hz2]; omega) (by unfold maxLen; omega) (Nat.le_refl _) ?_
  intro w' hown hg
  refine hK w' ?_ ((Below.refl _ w).grown hg (Nat.le_refl _) fun k e => by cases e)
  have e2 : (madeCells (Value.int .u8 0).cells (n * 1)).toList = Lib.byteCells (List.replicate n 0) := by
    rw [show (Value.int .u8 0).cells = #[.int .u8 0] from rfl, toList_madeCells_one, Nat.mul_one]
    simp [Lib.byteCells]
  rw [e2] at hown
  rcases hown.2 with ⟨e, e0⟩ | ⟨g, cap, cur, e, hB, hgg, k1, k2, k3, k4⟩
  · omega
  · injection e with e1 e3 e4
    injection e1 with e1
    injection e1 with e1
    subst e1
    refine ⟨block_lt hgg, fun j u hu => ?_, fun j hj => frozen_of_row _ _ _ _ _ hgg⟩
    rw [cell_of_row _ _ _ _ _ _ hgg]
    rw [← k4, List.getElem?_take] at hu
    split at hu
    · rw [← Array.getElem?_toList]; exact hu
    · cases hu
theorem Tryz.copy_sN {w : World} {g N : Nat} {l : List UInt8} (h : Rb w g l) (hl : l.length = N) {s : List UInt8} (hs : s.length ≤ N) (ty : TypeId) :
    (Builtin.copy_ #[23, 9] ty #[.slice (some ⟨g, 0, none⟩) N N, .string ⟨s.toArray⟩]).run Tryz.prog w = .ok (goInt s.length) (w.setCells g 0 (Lib.byteCells s)) := by
  have := run_copy_string (P := Tryz.prog) w 23 9 ty 5 g 0 N N ⟨s.toArray⟩ Tryz.underlying23 Tryz.szu8N (by rw [text_size]; exact hs) (fun j hj => by rw [text_size] at hj; rw [Nat.zero_add, h.at (by omega)]; rfl) (fun j hj => by rw [text_size] at hj; rw [Nat.zero_add]; exact h.fz j (by omega))
  rw [text_size] at this
  exact this
set_option maxRecDepth 20000 in
set_option maxHeartbeats 1000000 in
theorem Tryz.lent_any (s : List UInt8) (hs : s.length ≤ 140737488355000) (w : World) :
    Calls Tryz.prog 6 #[.string ⟨s.toArray⟩] w fun e w' => e = .returned (.slice (some ⟨w.heap.size, 0, none⟩) (s.length + 8) (s.length + 8)) ∧ Rb w' w.heap.size (s ++ List.replicate 8 201) ∧ Below w.heap.size w w' := by
  have hz := text_size s
  go_enter Tryz.func6, Tryz.ntmps6
  obtain ⟨N, hN⟩ : ∃ N : Nat, N = s.length + 8 := ⟨_, rfl⟩
  have e1 : IntKind.i64.wrap ((s.length : Int) + 8) = (N : Int) := by rw [IntKind.wrap_i64]; omega
  have HN : Hid (N = s.length + 8) := hN
  have hN2 : N ≤ 140737488355328 := by omega
  have hN3 : s.length ≤ N := by omega
  have hN0 : 0 < N := by omega
  rw [← hN]
  clear hN
  go_wp2_with (first | (refine Tryz.makeZN rfl _ _ rfl _ N rfl rfl rfl hN2 ?_ hN0; intro w1 ho1 hb1; have hcp := Tryz.copy_sN ho1 (by rw [List.length_replicate]) hN3; have HO1 : Hid _ := ho1; have HB1 : Hid _ := hb1; clear ho1 hb1) | fail)
  have HR : Hid (Rb (w1.setCells w.heap.size 0 (Lib.byteCells s)) w.heap.size (s ++ (List.replicate (s.length - s.length) 201 ++ List.replicate (N - s.length) 0))) := (by
    have := HO1.out.over s (by rw [List.length_replicate]; exact hN3)
    rw [List.drop_replicate] at this
    show Rb _ _ _
    rw [Nat.sub_self]
    exact this)
  have HW : Hid (Below w.heap.size w (w1.setCells w.heap.size 0 (Lib.byteCells s))) := Wo.toBelow HB1.out (Wb.setCells_wo (own := fun k => w.heap.size ≤ k) w.heap.size (Nat.le_refl _) _ 0 w1 w1 (Wo.refl _ _)) (fun k e => e) HB1.out.size
  clear HO1 HB1 hcp
  generalize w1.setCells w.heap.size 0 (Lib.byteCells s) = w2 at *
  go_loopw [4] (fun iv wr => ∃ i : Nat, iv = .int .i64 i ∧ s.length ≤ i ∧ i ≤ N ∧ Rb wr w.heap.size (s ++ (List.replicate (i - s.length) 201 ++ List.replicate (N - i) 0)) ∧ Below w.heap.size w wr) (fun iv _ => N - (intOf iv).toNat)
  case atStart => exact ⟨s.length, rfl, Nat.le_refl _, hN3, HR.out, HW.out⟩
  case round =>
    clear HR HW
    obtain ⟨i, rfl, h1, h2, hr, hb⟩ := hrel
    have HB : Hid (Below w.heap.size w wr) := hb
    have HL : Hid ((s ++ (List.replicate (i - s.length) (201 : UInt8) ++ List.replicate (N - i) 0)).length = N) := (by show _ = _; simp only [List.length_append, List.length_replicate]; omega)
    by_cases hlt : i < N
    · have q : (i : Int) < (N : Int) := by omega
      have hil : i < (s ++ (List.replicate (i - s.length) (201 : UInt8) ++ List.replicate (N - i) 0)).length := by rw [HL.out]; exact hlt
      obtain ⟨v0, c0⟩ : ∃ v, wr.cell? ⟨w.heap.size, i, none⟩ = some v := ⟨_, hr.at hil⟩
      have f0 := hr.fz i hil
      have HS : Hid (Rb (wr.setCell ⟨w.heap.size, i, none⟩ (.int .u8 201)) w.heap.size (s ++ (List.replicate (i + 1 - s.length) (201 : UInt8) ++ List.replicate (N - (i + 1)) 0))) := (by
        have := hr.set hil 201
        rw [lent_next s i N h1 hlt] at this
        exact this)
      clear hr hb hil HL
      go_wp2
      go_roundw
      case rel => exact ⟨i + 1, by simp, by omega, by omega, HS.out, Wo.toBelow HB.out ((Wo.refl (fun k => w.heap.size ≤ k) wr).setCell _ _ _ (.inl (Nat.le_refl _))) (fun k e => e) HB.out.size⟩
      case measure => simp [intOf]; omega
    · have q : ¬ (i : Int) < (N : Int) := by omega
      have HR : Hid (Rb wr w.heap.size (s ++ List.replicate 8 201)) := (by
        have e : i = N := by omega
        subst e
        rw [Nat.sub_self, List.replicate_zero, List.append_nil, show i - s.length = 8 by have := HN.out; omega] at hr
        exact hr)
      clear hr hb HL
      go_wp2
      go_ret
      exact ⟨by trivial, HR.out, HB.out⟩
end Go.Proofs
namespace Go.Wb
open Go.RowKit Go.Proofs Go.Wi
/-- A row with its spare room, in a block of which P holds. -/
def Wk (w : World) (size : Nat) (P : Nat → Prop) (V : Value) (n : Nat) : Prop :=
  (V = .slice none 0 0 ∧ n = 0) ∨ ∃ g cap, V = .slice (some ⟨g, 0, none⟩) n cap ∧ P g ∧ g < w.heap.size ∧ n ≤ cap ∧ ∀ j, j < cap * size → (w.cell? ⟨g, j, none⟩).isSome = true ∧ w.frozen? ⟨g, j, none⟩ = false
theorem Wk.ofRow {w : World} {B n size : Nat} {T : TypeId} {V : Value} {l : List Value} (h : w.ownsRow B T size V n l) (P : Nat → Prop) (hP : ∀ k, V.ownBlock = some k → P k) : Wk w size P V n := by
  rcases h.2 with ⟨h1, h2⟩ | ⟨g, cap, cur, rfl, _, hg, h3, _, h5, _⟩
  · exact .inl ⟨h1, h2⟩
  · refine .inr ⟨g, cap, rfl, hP g rfl, block_lt hg, h3, fun j hj => ⟨?_, frozen_of_row _ _ _ _ _ hg⟩⟩
    rw [cell_of_row _ _ _ _ _ _ hg, Array.getElem?_eq_getElem (by omega)]; rfl
theorem Wk.mono {w : World} {n size : Nat} {P P' : Nat → Prop} {V : Value} (h : Wk w size P V n) (hP : ∀ k, P k → P' k) : Wk w size P' V n := by
  rcases h with h | ⟨g, cap, e, h1, h2⟩
  · exact .inl h
  · exact .inr ⟨g, cap, e, hP g h1, h2⟩
theorem Wk.is {w : World} {n size : Nat} {P : Nat → Prop} {V : Value} (h : Wk w size P V n) : ∃ ad cap, V = .slice ad n cap := by
  rcases h with ⟨rfl, rfl⟩ | ⟨g, cap, rfl, _⟩
  · exact ⟨none, 0, rfl⟩
  · exact ⟨_, _, rfl⟩
theorem Wk.at {w : World} {n size cap : Nat} {ad : Option Addr} {P : Nat → Prop} (h : Wk w size P (.slice ad n cap) n) (hn : 0 < n) : ∃ g, ad = some ⟨g, 0, none⟩ ∧ P g := by
  rcases h with ⟨_, e⟩ | ⟨g, c, e, h1, _⟩
  · omega
  · injection e with e; exact ⟨g, e, h1⟩
theorem Wk.there {w : World} {n size cap g : Nat} {P : Nat → Prop} (h : Wk w size P (.slice (some ⟨g, 0, none⟩) n cap) n) {i : Nat} (hi : i < n) : w.there g (i * size) size := by
  rcases h with ⟨e, _⟩ | ⟨g', c, e, _, _, h3, h4⟩
  · cases e
  · cases e
    intro j hj
    refine h4 _ ?_
    have h5 : (i + 1) * size ≤ cap * size := Nat.mul_le_mul_right size (by omega)
    rw [Nat.add_mul, Nat.one_mul] at h5
    omega
theorem Wk.setCells {w : World} {n size : Nat} {P : Nat → Prop} {V : Value} (h : Wk w size P V n) (b o : Nat) (vs : List Value) : Wk (w.setCells b o vs) size P V n := by
  rcases h with h | ⟨g, cap, e, h1, h2, h3, h4⟩
  · exact .inl h
  · exact .inr ⟨g, cap, e, h1, Nat.lt_of_lt_of_le h2 (setCells_wo b vs o w).size, h3, fun j hj => ⟨World.isSome_setCells b vs o w _ (h4 j hj).1, by rw [World.frozen?_setCells]; exact (h4 j hj).2⟩⟩
theorem Wk.setCell {w : World} {n size : Nat} {P : Nat → Prop} {V : Value} (h : Wk w size P V n) (b o : Nat) (v : Value) : Wk (w.setCell ⟨b, o, none⟩ v) size P V n := h.setCells b o [v]
theorem Wk.keep {w w' : World} {n size : Nat} {P : Nat → Prop} {V : Value} (h : Wk w size P V n) (hk : ∀ k, P k → k < w.heap.size → w'.heap[k]? = w.heap[k]?) : Wk w' size P V n := by
  rcases h with h | ⟨g, cap, e, h1, h2, h3, h4⟩
  · exact .inl h
  · have e2 := hk g h1 h2
    have hlt : g < w'.heap.size := by
      rw [Array.getElem?_eq_getElem h2] at e2
      exact block_lt e2
    exact .inr ⟨g, cap, e, h1, hlt, h3, fun j hj => ⟨by rw [World.cell?_of_block (a := ⟨g, j, none⟩) e2]; exact (h4 j hj).1, (World.frozen?_of_block (a := ⟨g, j, none⟩) e2).trans (h4 j hj).2⟩⟩
/-- Rows with their room are such rows still. -/
def Kw (w w1 : World) : Prop := ∀ size P V n, Wk w size P V n → Wk w1 size P V n
theorem isSome_cells (w : World) (g n : Nat) (h : ∀ j, j < n → (w.cell? ⟨g, j, none⟩).isSome = true) : ∃ l : List Value, l.length = n ∧ ∀ j u, l[j]? = some u → w.cell? ⟨g, j, none⟩ = some u := by
  induction n with
  | zero => exact ⟨[], rfl, fun j u e => by cases e⟩
  | succ n ih =>
    obtain ⟨l, h1, h2⟩ := ih fun j hj => h j (by omega)
    obtain ⟨v, hv⟩ := Option.isSome_iff_exists.1 (h n (by omega))
    refine ⟨l ++ [v], by simp [h1], fun j u e => ?_⟩
    by_cases hj : j < n
    · rw [List.getElem?_append_left (by omega)] at e; exact h2 j u e
    · have hj2 := (List.getElem?_eq_some_iff.1 e).1
      rw [List.length_append, h1] at hj2
      obtain rfl : j = n := by simp at hj2; omega
      rw [List.getElem?_append_right (by omega), h1, Nat.sub_self] at e
      simp at e
      rw [hv, e]
/-- 'append' of one thing, which lies in a block of its own. -/
theorem wk_app {P : Program} {t e : TypeId} {i : TypeInfo} {z : Value} {size bytes : Nat} (ty : TypeId) (ht : P.underlying t = some (.slice e)) (hi : P.info? e = some i) (hz : i.zero = some z) (hz1 : i.size = size) (hz2 : i.bytes = bytes) (hzs : z.cells.size = size) (hs0 : 0 < size)
    {w : World} {PP : Nat → Prop} {V : Value} {n : Nat} (h : Wk w size PP V n) (hP : ∀ k, w.heap.size ≤ k → PP k) (xs : List Value) (g0 : Nat) (hx : xs.length = size)
    (hnb : w.heap[g0]? = some (.cells xs.toArray e (0, 0))) (hone : ∀ u ∈ xs, u.oneCell' = true) (hlen : (n + 1) * bytes ≤ 140737488355328) (hmax : n + 1 ≤ maxLen) :
    ∃ ad cap w1, (Builtin.append_ #[t, t] ty #[V, .slice (some ⟨g0, 0, none⟩) 1 1]).run P w = .ok (.slice ad (n + 1 : Nat) cap) w1 ∧ Wk w1 size PP (.slice ad (n + 1 : Nat) cap) (n + 1) ∧ Wo PP w w1 ∧ Kw w w1 := by
  have hnews : ∀ (j : Nat) u, xs[j]? = some u → w.cell? ((⟨g0, 0, none⟩ : Addr).add j) = some u := World.news_of_block (cs := xs.toArray) hnb
  have grown : ∀ v' w' l, w'.ownsRow w.heap.size e size v' (n + 1) l → w.grownBy w' none → ∃ ad cap, v' = .slice ad (n + 1 : Nat) cap ∧ Wk w' size PP v' (n + 1) ∧ Wo PP w w' ∧ Kw w w' := by
    intro v' w' l ho hg
    have h1 := Wk.ofRow ho PP fun k ek => hP k (ho.lt k ek).1
    obtain ⟨ad, cap, e⟩ := h1.is
    exact ⟨ad, cap, e, h1, (Wo.refl _ w).grown hg (fun k e => by cases e), fun size P V n h => h.keep fun k _ e => hg.block k e (by simp)⟩
  rcases h with ⟨rfl, rfl⟩ | ⟨g, cap, rfl, h1, h2, h3, h4⟩
  · obtain ⟨v', w', hrun, r1, r2, _⟩ := run_append_own (P := P) w w.heap.size t ty e i _ size bytes ht hi hz hz1 hz2 hzs hs0 (.slice none 0 0) 0 [] (World.ownsRow_nil w _ _ _) ⟨g0, 0, none⟩ 1 1 xs (by omega) hnews hone (by simpa using hmax) (by simpa using hlen) (Nat.le_refl _)
    obtain ⟨ad, cap, rfl, g1, g2⟩ := grown v' w' _ r1 r2
    exact ⟨ad, cap, w', hrun, g1, g2⟩
  · by_cases hr : n + 1 ≤ cap
    · have h5 : (n + 1) * size ≤ cap * size := Nat.mul_le_mul_right size hr
      rw [Nat.add_mul, Nat.one_mul] at h5
      have hsp : ∀ j, j < xs.length → (w.cell? ⟨g, 0 + n * i.size + j, none⟩).isSome = true ∧ w.frozen? ⟨g, 0 + n * i.size + j, none⟩ = false := fun j hj => by
        rw [hz1, Nat.zero_add]
        exact h4 _ (by omega)
      have hrun := run_append_room_cells (P := P) w t ty e i ht hi g 0 n cap ⟨g0, 0, none⟩ 1 1 xs (by rw [hz1]; omega) hnews hone hr (fun j hj => (hsp j hj).1) (fun j hj => (hsp j hj).2)
      have hk : Wk w size PP (.slice (some ⟨g, 0, none⟩) (n + 1 : Nat) cap) (n + 1) := .inr ⟨g, cap, rfl, h1, h2, hr, h4⟩
      exact ⟨_, cap, _, hrun, hk.setCells _ _ _, (setCells_wo g xs _ w).mono (fun k e => by rw [e]; exact h1), fun size P V n h => h.setCells _ _ _⟩
    · obtain ⟨l, hl1, hl2⟩ := isSome_cells w g (n * size) fun j hj => (h4 j (by have := Nat.mul_le_mul_right size h3; omega)).1
      obtain ⟨v', w', hrun, r1, r2⟩ := run_append_arg_grows (P := P) w t ty e i _ size bytes ht hi hz hz1 hz2 hzs hs0 ⟨g, 0, none⟩ n cap l hl1 (fun j u hj => by rw [Addr.add_mid, Nat.zero_add]; exact hl2 j u hj) ⟨g0, 0, none⟩ 1 1 xs (by omega) hnews (by omega) hmax hlen
      obtain ⟨ad, cap', rfl, g1, g2⟩ := grown v' w' _ r1 r2
      exact ⟨ad, cap', w', hrun, g1, g2⟩
/-- At a step of a region. -/
theorem appW {P : Program} {ops : Array Oper} {rest : List Oper} {o : Oper} {a : Act} {Q : Exit → Act → World → Prop} {t e : TypeId} {i : TypeInfo} {z : Value} {size bytes : Nat} (hgd : o.guard = none) (s y : Operand)
    (ho : o.op = .call { callee := .builtin .append, args := #[s, y], argTypes := #[t, t] }) (ht : P.underlying t = some (.slice e)) (hi : P.info? e = some i) (hz : i.zero = some z) (hz1 : i.size = size) (hz2 : i.bytes = bytes) (hzs : z.cells.size = size) (hs0 : 0 < size)
    {w : World} {PP : Nat → Prop} {V : Value} {n : Nat} (h : Wk w size PP V n) (hP : ∀ k, w.heap.size ≤ k → PP k) (hs : a.eval s = V) (xs : List Value) (g0 : Nat) (hy : a.eval y = .slice (some ⟨g0, 0, none⟩) 1 1) (hx : xs.length = size)
    (hnb : w.heap[g0]? = some (.cells xs.toArray e (0, 0))) (hone : ∀ u ∈ xs, u.oneCell' = true) (hlen : (n + 1) * bytes ≤ 140737488355328) (hmax : n + 1 ≤ maxLen)
    (hK : ∀ ad cap w1, Wk w1 size PP (.slice ad (n + 1 : Nat) cap) (n + 1) → Wo PP w w1 → Kw w w1 → wpList P ops Q rest (a.put o.dst (.slice ad (n + 1 : Nat) cap)) w1) : wpList P ops Q (o :: rest) a w :=
  wpList_plain hgd fun _ hk' => by
    obtain ⟨ad, cap, w1, hrun, h1, h2, h3⟩ := wk_app o.type ht hi hz hz1 hz2 hzs hs0 h hP xs g0 hx hnb hone hlen hmax
    unfold Oper.wp
    simp [execOp, ho, resolve, invoke, builtin, hs, hy, hrun, Result.andThen]
    exact hk' _ _ (hK ad cap w1 h1 h2 h3)
end Go.Wb
namespace Go.Proofs
open Go.RowKit Go.Wi Go.Wb
section
variable {ops : Array Oper} {rest : List Oper} {o : Oper} {a : Act} {Q : Exit → Act → World → Prop} {w : World} {PP : Nat → Prop} {V : Value} {n : Nat}
theorem Tryz.appW1 (hgd : o.guard = none) (s y : Operand) (ho : o.op = .call { callee := .builtin .append, args := #[s, y], argTypes := #[23, 23] })
    (h : Wk w 1 PP V n) (hP : ∀ k, w.heap.size ≤ k → PP k) (hs : a.eval s = V) (v : Value) (hv : v.oneCell' = true) (g0 : Nat) (hy : a.eval y = .slice (some ⟨g0, 0, none⟩) 1 1)
    (hnb : w.heap[g0]? = some (.cells #[v] 5 (0, 0))) (hlen : n + 1 ≤ 140737488355328)
    (hK : ∀ ad cap w1, Wk w1 1 PP (.slice ad (n + 1 : Nat) cap) (n + 1) → Wo PP w w1 → Kw w w1 → wpList Tryz.prog ops Q rest (a.put o.dst (.slice ad (n + 1 : Nat) cap)) w1) : wpList Tryz.prog ops Q (o :: rest) a w := by
  obtain ⟨i0, hi0, hz0, hz1, hz2⟩ := info_parts Tryz.info8N
  exact appW hgd s y ho Tryz.underlying23 hi0 hz0 hz1 hz2 rfl (by decide) h hP hs [v] g0 hy rfl hnb (fun u hu => by rw [List.mem_singleton.1 hu]; exact hv) (by omega) (by unfold maxLen; omega) hK
theorem Tryz.infoHN : (Tryz.prog.info? 57).map (fun i => (i.zero, i.size, i.bytes)) = some (some (.agg #[.string ByteArray.empty, .string ByteArray.empty]), 2, 32) := by kernel_rfl
theorem Tryz.appW2 (hgd : o.guard = none) (s y : Operand) (ho : o.op = .call { callee := .builtin .append, args := #[s, y], argTypes := #[25, 25] })
    (h : Wk w 2 PP V n) (hP : ∀ k, w.heap.size ≤ k → PP k) (hs : a.eval s = V) (u v : ByteArray) (g0 : Nat) (hy : a.eval y = .slice (some ⟨g0, 0, none⟩) 1 1)
    (hnb : w.heap[g0]? = some (.cells #[.string u, .string v] 57 (0, 0))) (hlen : n + 1 ≤ 4398046511104)
    (hK : ∀ ad cap w1, Wk w1 2 PP (.slice ad (n + 1 : Nat) cap) (n + 1) → Wo PP w w1 → Kw w w1 → wpList Tryz.prog ops Q rest (a.put o.dst (.slice ad (n + 1 : Nat) cap)) w1) : wpList Tryz.prog ops Q (o :: rest) a w := by
  obtain ⟨i0, hi0, hz0, hz1, hz2⟩ := info_parts Tryz.infoHN
  exact appW hgd s y ho Tryz.underlying25 hi0 hz0 hz1 hz2 rfl (by decide) h hP hs [.string u, .string v] g0 hy rfl hnb (fun x hx => by
    simp only [List.mem_cons, List.not_mem_nil, or_false] at hx
    rcases hx with rfl | rfl <;> rfl) (by omega) (by unfold maxLen; omega) hK
end
end Go.Proofs
