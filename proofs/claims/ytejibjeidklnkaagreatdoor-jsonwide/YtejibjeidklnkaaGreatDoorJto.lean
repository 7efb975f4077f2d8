/-
  The laws' 'at' and 'tokens'.
-/
import Derived.Test.YtejibjeidklnkaaGreatDoorJtk
import Derived.Test.YtejibjeidklnkaaGreatDoorJpi
import Derived.Deep.AppendLies
namespace Go.Proofs
open Go.RowKit Go.Jv
/-- Numbers that came in. -/
structure Jv.Iv (w : World) (v : Value) (li : List Int) : Prop where
  ex : ∃ ad cap, v = .slice ad li.length cap ∧ (li = [] ∨ ∃ g o, ad = some ⟨g, o, none⟩ ∧ g < w.heap.size ∧ ∀ j (hj : j < li.length), w.cell? ⟨g, o + j, none⟩ = some (.int .i64 li[j]))
  ok : ∀ n ∈ li, -9223372036854775808 ≤ n ∧ n ≤ 9223372036854775807
theorem Jv.Iv.up {w w' : World} {v : Value} {li : List Int} (h : Jv.Iv w v li) (g : Below w.heap.size w w') : Jv.Iv w' v li := by
  obtain ⟨ad, cap, rfl, h1⟩ := h.ex
  refine ⟨⟨ad, cap, rfl, ?_⟩, h.ok⟩
  rcases h1 with h1 | ⟨gg, o, rfl, hg, h1⟩
  · exact .inl h1
  · exact .inr ⟨gg, o, rfl, Nat.lt_of_lt_of_le hg g.size, fun j hj => (g.cell (p := ⟨gg, o + j, none⟩) hg).trans (h1 j hj)⟩
def Jv.atv (li : List Int) (i : Nat) : Nat := match li[i]? with
  | none => 0
  | some c => pk c 1099511627776
theorem Jv.atv_lt (li : List Int) (i : Nat) : Jv.atv li i < 1099511627776 := by
  unfold Jv.atv
  split
  · omega
  · exact pk_lt _ _ (by omega)
set_option maxHeartbeats 2000000 in
theorem Tryz.at_any {w : World} {v : Value} {li : List Int} (h : Jv.Iv w v li) (i : Nat) (_hi : i ≤ 9223372036854775807) (hl : li.length ≤ 9223372036854775807) :
    Calls Tryz.prog 7 #[v, .int .i64 i] w fun e w' => e = .returned (.int .i64 (Jv.atv li i)) ∧ w' = w := by
  obtain ⟨ad, cap, rfl, h1⟩ := h.ex
  by_cases hlt : i < li.length
  · have q0 : ¬ (li.length : Int) ≤ (i : Int) := by omega
    obtain ⟨g, o, rfl, c0⟩ : ∃ g o, ad = some ⟨g, o, none⟩ ∧ w.cell? ⟨g, o + i, none⟩ = some (.int .i64 li[i]) := by
      rcases h1 with rfl | ⟨g, o, e, -, h2⟩
      · simp at hlt
      · exact ⟨g, o, e, h2 i hlt⟩
    have hb := h.ok _ (List.getElem_mem hlt)
    have hpk := fun W => Tryz.pick_any li[i] hb.1 hb.2 1099511627776 (by omega) (by omega) W
    have he : Jv.atv li i = pk li[i] 1099511627776 := by unfold Jv.atv; rw [List.getElem?_eq_getElem hlt]
    rw [he]
    generalize li[i] = x at *
    clear h1 h hb he
    go_enter Tryz.func7, Tryz.ntmps7
    go_wp2_with (first
      | (go_at_call 10; refine (hpk _).mono ?_; clear hpk; rintro e2 w2 ⟨rfl, rfl⟩)
      | fail)
    go_ret
    exact ⟨rfl, rfl⟩
  · have q0 : (li.length : Int) ≤ (i : Int) := by omega
    have he : Jv.atv li i = 0 := by unfold Jv.atv; rw [List.getElem?_eq_none (by omega)]
    rw [he]
    clear h1 h he
    go_enter Tryz.func7, Tryz.ntmps7
    go_wp2
    go_ret
    exact ⟨rfl, rfl⟩
def Jv.tks (l : List ByteArray) : List Value := l.map Value.string
def Jv.Cn : Nat → Nat
  | 0 => 1
  | d + 1 => 3 * (Jv.Cn d + 3) + 2
def Jv.Bn : Nat → Nat
  | 0 => 16
  | d + 1 => 3 * (Jv.Bn d + 6) + 2
/-- What 'tokens' leaves. -/
def Tryz.TOk (d : Nat) (W : World) (e : Ending) (w' : World) : Prop := ∃ v l sv, e = .returned sv ∧ w'.ownsRow W.heap.size 9 1 sv l.length (Jv.tks l) ∧ TW d v l ∧ l.length ≤ Jv.Cn d ∧ (flat l).length ≤ Jv.Bn d ∧ Below W.heap.size W w'
/-- The scalars that 'tokens' takes. -/
def Jv.sv : Nat → V
  | 0 => .null
  | 1 => .bool true
  | 2 => .bool false
  | 3 => .int 0
  | 4 => .int (-7)
  | 5 => .int 9007199254740991
  | 6 => .text ⟨#[]⟩
  | 7 => .text ⟨#[97]⟩
  | 8 => .text ⟨#[195, 169, 10]⟩
  | 9 => .text ⟨#[32]⟩
  | _ => .text ⟨#[92, 34]⟩
theorem Jv.sv_sc (j : Nat) : Sc (Jv.sv j) := by
  unfold Jv.sv
  split <;> first | trivial | exact ⟨by decide, by decide⟩ | (show Lib.validD _ = true; decide)
theorem Jv.Cn_pos (d : Nat) : 1 ≤ Jv.Cn d := by cases d <;> simp [Jv.Cn]
theorem Jv.Bn_ge (d : Nat) : 16 ≤ Jv.Bn d := by induction d with
  | zero => simp [Jv.Bn]
  | succ d ih => simp [Jv.Bn]; omega
theorem Tryz.leaf_tok {W : World} (d j : Nat) (X : ByteArray) (hX : X.data.toList = pr (Jv.sv j)) (hl : X.size ≤ 16) (A : Obj) : Tryz.TOk d W (.returned (.slice (some ⟨W.heap.size + 1, 0, none⟩) 1 1)) ((W.alloc A).alloc (.cells #[.string X] 9)) := by
  have hx : X = ⟨(pr (Jv.sv j)).toArray⟩ := by
    apply ByteArray.ext
    apply Array.toList_inj.1
    simpa using hX
  refine ⟨Jv.sv j, [X], _, rfl, ?_, by rw [hx]; exact tw_sc d _ (Jv.sv_sc j), Jv.Cn_pos d, ?_, ((Below.refl _ _).alloc (Nat.le_refl _) _).alloc (by simp) _⟩
  · have hn := heap_alloc_new (W.alloc A) (.cells #[.string X] 9)
    rw [World.size_alloc] at hn
    exact ⟨by simp [Jv.tks], .inr ⟨_, 1, _, rfl, by omega, hn, Nat.le_refl _, by unfold maxLen; omega, by simp, by simp [Jv.tks]⟩⟩
  · have := Jv.Bn_ge d
    have e : (flat [X]).length = X.size := by rw [Lib.size_eq]; simp [flat]
    omega
end Go.Proofs
