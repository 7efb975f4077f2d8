/-
  What OfMap makes, as a value; OfMap of two members; 'pick'.
-/
import Derived.Test.YtoibnhknkhefjaaGreatDoorOc
import Derived.Test.YtoibnhknkhefjaaGreatDoorJrr
import Derived.Test.YtoibnhknkhefjaaGreatDoorOd
import Derived.Test.YtoibnhknkhefjaaGreatDoorJw
import Derived.Test.YtoibnhknkhefjaaGreatDoorProg
namespace Go.Proofs
open Go.RowKit Go.Jv Go.Sort Go.Maps
theorem Jv.vb_of {w : World} {x : Nat} {k : Int} {tr : Bool} {n : Int} {s : ByteArray} {ks is : Value} {T : TypeId} (h : w.heap[x]? = some (.cells #[.int .i64 k, .bool tr, .int .i64 n, .string s, ks, is] T (0, 0))) : Jv.Vb w x k tr n s ks is :=
  ⟨cell_of_row _ _ 0 _ _ _ h, cell_of_row _ _ 1 _ _ _ h, cell_of_row _ _ 2 _ _ _ h, cell_of_row _ _ 3 _ _ _ h, cell_of_row _ _ 4 _ _ _ h, cell_of_row _ _ 5 _ _ _ h, frozen_of_row _ _ 4 _ _ h, frozen_of_row _ _ 5 _ _ h, (Array.getElem?_eq_some_iff.1 h).1⟩
theorem Tryz.trs_of {w : World} {ok : Nat → Prop} : ∀ (l : List V) (xs : List Nat), l.length = xs.length → (∀ (i : Nat) (v : V) (y : Nat), l[i]? = some v → xs[i]? = some y → Tryz.Tr w ok v y) → Tryz.Trs w ok l xs
  | [], [], _, _ => by unfold Tryz.Trs; rfl
  | [], _ :: _, h, _ => by simp at h
  | _ :: _, [], h, _ => by simp at h
  | v :: l, x :: xs, h, ht => by
    unfold Tryz.Trs
    exact ⟨x, xs, rfl, ht 0 v x rfl rfl, Tryz.trs_of l xs (by simpa using h) fun i v' y h1 h2 => ht (i + 1) v' y (by simpa using h1) (by simpa using h2)⟩
theorem Tryz.Om.tr {w : World} {b n : Nat} {D : DataW Unit} {ks : List ByteArray} {gM capM xv : Nat} {wr : World} {kv iv : Value} {xs : List Nat} (h : Tryz.Om w b n D ks gM capM xv wr ks.length ks.length kv iv xs) (hxs : xs.length = ks.length) (vs : List V) (hvs : vs.length = ks.length) (hv : ∀ (i : Nat) (s : ByteArray) (y : Nat) (v : V), ks[i]? = some s → xs[i]? = some y → vs[i]? = some v → Tryz.Tr wr (fun g => g < wr.heap.size) v y) :
    Tryz.Tr wr (fun g => g < wr.heap.size) (.obj ks vs) xv := by
  unfold Tryz.Tr
  refine ⟨h.lt, kv, iv, xs, Jv.vb_of h.obj, ⟨?_, fun k hk => (Jv.row_lo h.keys k hk).2⟩, ⟨?_, fun k hk => (Jv.row_lo h.items k hk).2⟩, Tryz.trs_of vs xs (by omega) fun i v y h1 h2 => ?_, by omega⟩
  · have := h.keys
    rw [List.take_length] at this
    rw [List.length_map]
    exact Jv.row_move this fun g hg => ⟨Nat.zero_le _, rfl⟩
  · have := h.items
    rw [← hxs] at this
    unfold Jv.ptrs
    rw [List.length_map]
    exact Jv.row_move this fun g hg => ⟨Nat.zero_le _, rfl⟩
  · have hi : i < ks.length := by have := (List.getElem?_eq_some_iff.1 h1).1; omega
    exact hv i _ y v (List.getElem?_eq_getElem hi) h2 h1
/-- A null that OfMap put in. -/
theorem Tryz.null_tr {wr : World} {y : Nat} (h : wr.heap[y]? = some (.cells Jv.nullC 67 (0, 0))) : Tryz.Tr wr (fun g => g < wr.heap.size) .null y := by
  unfold Tryz.Tr
  exact ⟨(Array.getElem?_eq_some_iff.1 h).1, Jv.vb_of h⟩
end Go.Proofs
namespace Go.Proofs
open Go.RowKit Go.Jv Go.Sort Go.Maps
def Jv.kA : ByteArray := ⟨#[97]⟩
def Jv.kB : ByteArray := ⟨#[98]⟩
def Jv.D2 (o p : Option Nat) : DataW Unit := ((DataW.map []).put (Jv.kl Jv.kB) (Jv.ptrD o)).put (Jv.kl Jv.kA) (Jv.ptrD p)
theorem Jv.kl_key (s : ByteArray) : WideAt.IsKeyLit (Jv.kl s) := trivial
theorem Jv.kBA : Jv.kl Jv.kB ≠ Jv.kl Jv.kA := by
  intro h
  have := Jv.kl_same Jv.kB Jv.kA
  rw [h, Jv.kl_same] at this
  simp [Jv.kA, Jv.kB] at this
theorem Jv.D2_has (o p : Option Nat) : (∀ k, Maps.has (Jv.D2 o p) k = true → ∃ s ∈ [Jv.kA, Jv.kB], k = Jv.kl s) ∧ ∀ s ∈ [Jv.kA, Jv.kB], Maps.has (Jv.D2 o p) (Jv.kl s) = true := by
  have hm : IsMap ((DataW.map [] : DataW Unit).put (Jv.kl Jv.kB) (Jv.ptrD o)) := Maps.isMap_empty.put _ _
  constructor
  · intro k hk
    by_cases h1 : k = Jv.kl Jv.kA
    · exact ⟨Jv.kA, by simp, h1⟩
    · by_cases h2 : k = Jv.kl Jv.kB
      · exact ⟨Jv.kB, by simp, h2⟩
      · unfold Jv.D2 at hk
        rw [Maps.has_put_other h1, Maps.has_put_other h2] at hk
        cases hk
  · intro s hs
    simp only [List.mem_cons, List.not_mem_nil, or_false] at hs
    unfold Jv.D2
    rcases hs with rfl | rfl
    · exact Maps.has_put_same hm (Jv.kl_key _) _
    · rw [Maps.has_put_other Jv.kBA]
      exact Maps.has_put_same Maps.isMap_empty (Jv.kl_key _) _
theorem Jv.D2_at (o p : Option Nat) : (Jv.D2 o p).atKey (Jv.kl Jv.kA) .nil = Jv.ptrD p ∧ (Jv.D2 o p).atKey (Jv.kl Jv.kB) .nil = Jv.ptrD o := by
  unfold Jv.D2
  refine ⟨Maps.atKey_put_same (Maps.isMap_empty.put _ _) (Jv.kl_key _) _ _, ?_⟩
  rw [Maps.atKey_put_other Jv.kBA]
  exact Maps.atKey_put_same Maps.isMap_empty (Jv.kl_key _) _ _
theorem Jv.rightAB : ∀ s ∈ [Jv.kA, Jv.kB], rightB s = s := by
  intro s hs
  simp only [List.mem_cons, List.not_mem_nil, or_false] at hs
  rcases hs with rfl | rfl <;> kernel_rfl
/-- OfMap of the two keys a and b, where a's is nil. -/
theorem Tryz.ofMap_two {w : World} {b n x : Nat} {v : V} (hown : w.ownsMap Tryz.prog 9 Jv.ptrR b n (Jv.D2 (some x) none)) (hv : Tryz.Tr w (fun g => g < w.heap.size) v x) :
    Calls Tryz.prog 21 #[.map (some b)] w fun e w' => ∃ y, e = .returned (.pointer (some ⟨y, 0, none⟩)) ∧ Tryz.Tr w' (fun g => g < w'.heap.size) (.obj [Jv.kA, Jv.kB] [.null, v]) y ∧ Below w.heap.size w w' := by
  refine (Tryz.ofMap_any hown [Jv.kA, Jv.kB] (Jv.D2_has _ _).1 (Jv.D2_has _ _).2 (by decide) (by decide) (by decide) (by decide) (fun s hs W => ?_)).mono ?_
  · have hsz : s.size ≤ 1 := by
      simp only [List.mem_cons, List.not_mem_nil, or_false] at hs
      rcases hs with rfl | rfl <;> decide
    have := Tryz.right_any s (by omega) W
    rw [Jv.rightAB s hs] at this
    exact this
  · rintro e w' ⟨xv, gM, capM, kv, iv, xs, rfl, hxs, hom⟩
    obtain ⟨dA, dB⟩ := Jv.D2_at (some x) none
    refine ⟨xv, rfl, hom.tr hxs [.null, v] rfl fun i s y u h1 h2 h3 => ?_, hom.bel⟩
    have hit := hom.its i s y h1 h2
    match i, h1, h3 with
    | 0, h1, h3 =>
      simp at h1 h3
      subst h1 h3
      rcases hit with h4 | ⟨_, _, h6⟩
      · rw [dA] at h4; cases h4
      · exact Tryz.null_tr h6
    | 1, h1, h3 =>
      simp at h1 h3
      subst h1 h3
      rcases hit with h4 | ⟨h4, _⟩
      · rw [dB] at h4
        have : x = y := by
          have := Jv.ptrD_inj (a := some x) (b := some y) h4
          injection this
        subst this
        exact Tryz.Tr_mono (fun g hg _ => Nat.lt_of_lt_of_le hg hom.bel.size) _ _ (Tryz.Tr_keep (fun g hg hl => hom.bel.block g hl) hom.bel.size _ _ hv)
      · rw [dB] at h4; cases h4
    | i + 2, h1, _ => simp at h1
end Go.Proofs
namespace Go.Jv
def pk (c : Int) (n : Nat) : Nat := (if c < 0 then -(c + 1) else c).toNat % n
theorem pk_lt (c : Int) (n : Nat) (h : 0 < n) : pk c n < n := Nat.mod_lt _ h
end Go.Jv
namespace Go.Proofs
open Go.RowKit Go.Jv
set_option maxHeartbeats 1000000 in
theorem Tryz.pick_any (c : Int) (h0 : -9223372036854775808 ≤ c) (h1 : c ≤ 9223372036854775807) (n : Nat) (hn : 0 < n) (hn2 : n ≤ 9223372036854775807) (w : World) :
    Calls Tryz.prog 18 #[.int .i64 c, .int .i64 n] w fun e w' => e = .returned (.int .i64 (pk c n)) ∧ w' = w := by
  have hz : ((n : Int) == 0) = false := by rw [beq_eq_false_iff_ne]; omega
  have hz' : ¬ (n : Int) = 0 := by omega
  have hm : ∀ x : Int, 0 ≤ x → x.tmod n = ((x.toNat % n : Nat) : Int) := fun x hx => by
    rw [Int.tmod_eq_emod_of_nonneg hx, Int.natCast_emod, Int.toNat_of_nonneg hx]
  by_cases hc : c < 0
  · have h2 := hm (-(c + 1)) (by omega)
    have hpk : ((pk c n : Nat) : Int) = (-(c + 1)).tmod n := by rw [h2]; unfold pk; rw [if_pos hc]
    have hb : 0 ≤ (-(c + 1)).tmod n ∧ (-(c + 1)).tmod n < n := by rw [h2]; have := Nat.mod_lt (-(c + 1)).toNat hn; omega
    have HPK : Hid _ := hpk
    rw [Int.neg_tmod] at hb
    clear hpk h2 hm
    go_enter Tryz.func18, Tryz.ntmps18
    go_wp2
    go_ret
    rw [HPK.out, Int.neg_tmod]
    exact ⟨rfl, rfl⟩
  · have h2 := hm c (by omega)
    have hpk : ((pk c n : Nat) : Int) = c % n := by rw [← Int.tmod_eq_emod_of_nonneg (by omega), h2]; unfold pk; rw [if_neg hc]
    have hb : 0 ≤ c % n ∧ c % n < n := ⟨Int.emod_nonneg _ (by omega), Int.emod_lt_of_pos _ (by omega)⟩
    have HPK : Hid _ := hpk
    clear hpk h2 hm
    go_enter Tryz.func18, Tryz.ntmps18
    go_wp2
    go_ret
    rw [HPK.out]
    exact ⟨rfl, rfl⟩
end Go.Proofs
