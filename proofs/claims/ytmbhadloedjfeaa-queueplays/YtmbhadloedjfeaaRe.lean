/-
  THE DOCUMENT's QUEUE: All.
-/
import Derived.Test.YtmbhadloedjfeaaRd
import Derived.Deep.RegionLaw
namespace Go.Qu
open Go.RowKit Go.Wi
theorem step_app {P : Program} {ops : Array Oper} {o : Oper} {a : Act} {w : World} {K : Act → World → Prop} {Q : Exit → Act → World → Prop} {E : Prop}
    (hg : o.guard = none) (s x : Operand) (t : TypeId) (hop : o.op = Op.call { callee := Callee.builtin Builtin.append, args := #[s, x], argTypes := #[t, t] })
    (v u : Value) (hd : a.eval s = v) (hx : a.eval x = u) {v' : Value} {w' : World} (hr : (Builtin.append_ #[t, t] o.type #[v, u]).run P w = .ok v' w') (hK : K (a.put o.dst v') w') :
    if Region.wanted o (yielded ops a.tmps) = true then Oper.wp P o a w K Q else E := by
  have hw : Region.wanted o (yielded ops a.tmps) = true := by simp [Region.wanted, hg]
  rw [if_pos hw]
  unfold Oper.wp
  simp [execOp, hop, resolve, invoke, builtin, hd, hx, hr, Result.andThen]
  exact hK
theorem nil_app {P : Program} {t e : TypeId} {i : TypeInfo} {z : Value} {bytes : Nat} (ht : P.underlying t = some (.slice e)) (hi : P.info? e = some i) (hz : i.zero = some z) (hsz : i.size = 1) (hby : i.bytes = bytes) (hzs : z.cells.size = 1) (hb16 : bytes ≤ 16)
    {w : World} {v : Value} {g : Option Nat} {xs : List Value} (h : Row e w v g xs) (hn : xs.length ≤ 1000000) (h1 : ∀ u ∈ xs, u.oneCell' = true) (ty : TypeId) :
    ∃ ad n cap w', (Builtin.append_ #[t, t] ty #[.slice none 0 0, v]).run P w = .ok (.slice ad n cap) w' ∧ (∃ g', Row e w' (.slice ad n cap) g' xs ∧ ∀ k, g' = some k → w.heap.size ≤ k) ∧ Below w.heap.size w w' := by
  by_cases h0 : xs = []
  · subst h0
    have hnil : ∃ a cap, v = .slice a 0 cap ∧ (a = none → cap = 0) := by
      rcases h.ex with ⟨a, e1, _, _⟩ | ⟨k, o, cap, cur, e1, _⟩
      · exact ⟨a, 0, e1, fun _ => rfl⟩
      · exact ⟨_, cap, e1, fun e => by cases e⟩
    obtain ⟨a, cap, rfl, hac⟩ := hnil
    refine ⟨none, 0, 0, w, ?_, ⟨none, Row.nil _ _, fun k e => by cases e⟩, Below.refl _ _⟩
    cases a with
    | none => exact run_append_nothing (P := P) w t t ty e i ht hi none 0 0 (Nat.le_refl _) _ (Src.ofNil w ht cap)
    | some ad => exact run_append_nothing (P := P) w t t ty e i ht hi none 0 0 (Nat.le_refl _) _ (Src.ofSlice w ht ad 0 cap [] (by simp) (fun j u hj => by simp at hj) (fun u hu => by cases hu))
  · have hpos : 0 < xs.length := List.length_pos_iff.2 h0
    have hbb : xs.length * bytes ≤ 140737488355328 := by
      have := Nat.mul_le_mul hn hb16
      omega
    rcases h.ex with ⟨a1, e1, e2, _⟩ | ⟨k, of, c, cur, rfl, e2, h3, h4, h5, h6, h7⟩
    · exact absurd e2 h0
    · obtain ⟨v', w', hrun, r1, r2, _⟩ := run_append_own (P := P) w w.heap.size t ty e i z 1 bytes ht hi hz hsz hby hzs (by omega) (.slice none 0 0) 0 [] (World.ownsRow_nil w _ e 1) ⟨k, of, none⟩ xs.length c xs (by omega) (fun j u hj => by rw [Addr.add_mid, cell_of_row _ _ _ _ _ _ h3]; exact h7 j u hj) h1 (by unfold maxLen; omega) (by simpa using hbb) (Nat.le_refl _)
      have hbel : Below w.heap.size w w' := (Below.refl w.heap.size w).grown r2 (Nat.le_refl _) (fun k hk => by cases hk)
      rw [Nat.zero_add, List.nil_append] at r1
      rcases r1.2 with ⟨_, e0⟩ | ⟨k', cap', cur', rfl, hB, hg, a1, a2, a3, a4⟩
      · omega
      · refine ⟨_, _, _, w', hrun, ⟨some k', ⟨.inr ⟨k', 0, cap', cur', rfl, rfl, hg, by omega, by omega, by omega, fun j u hj => ?_⟩⟩, fun q e => ?_⟩, hbel⟩
        · rw [← a4, List.getElem?_take] at hj
          split at hj
          · rw [Nat.zero_add, ← Array.getElem?_toList]; exact hj
          · cases hj
        · cases e; exact hB
/-- The rest of a row. -/
theorem Row.drop {T : TypeId} {w : World} {k o n cap : Nat} {g : Option Nat} {xs : List Value} (h : Row T w (.slice (some ⟨k, o, none⟩) n cap) g xs) (m : Nat) (hm : m < cap) : Row T w (.slice (some ⟨k, o + m, none⟩) (n - m) (cap - m)) (some k) (xs.drop m) := by
  rcases h.ex with ⟨a1, e1, _, _⟩ | ⟨k', of, c, cur, e1, e2, h3, h4, h5, h6, h7⟩
  · injection e1 with _ _ e1; omega
  · injection e1 with e1 e4 e5
    injection e1 with e1
    injection e1 with e1 e6
    subst e1 e4 e5 e6
    refine ⟨.inr ⟨k, o + m, cap - m, cur, by rw [List.length_drop], rfl, h3, by rw [List.length_drop]; omega, by omega, by omega, fun j u hj => ?_⟩⟩
    rw [List.getElem?_drop] at hj
    rw [show o + m + j = o + (m + j) by omega]
    exact h7 _ u hj
end Go.Qu
namespace Go.Proofs
open Go.RowKit Go.Wi Go.Qu
set_option maxHeartbeats 2000000 in
theorem Try.rall {w : World} {own : Nat → Prop} {b m : Nat} {s : Qs ByteArray} (h : Try.Rq w own b s m) (hm : m ≤ 100000) :
    Calls Try.prog 29 #[.pointer (some ⟨b, 0, none⟩)] w fun e w' => ∃ ad n cap, e = .returned (.slice ad n cap) ∧ (∃ g', Row 9 w' (.slice ad n cap) g' (s.l.map Value.string) ∧ ∀ k, g' = some k → w.heap.size ≤ k) ∧ Below w.heap.size w w' := by
  obtain ⟨v, g, L, gone, hb, hr, hg, ho, hd, hgl, hL⟩ := h.ex
  obtain ⟨i0, hi0, hz0, hz1, hz2⟩ := info_parts Try.infoS
  have hone : ∀ u ∈ s.l.map Value.string, u.oneCell' = true := fun u hu => by obtain ⟨c, _, rfl⟩ := List.mem_map.1 hu; rfl
  have hsl : (s.l.map Value.string).length ≤ 1000000 := by rw [List.length_map, ← hd, List.length_drop]; omega
  have c3 := cell_of_row w b 3 _ _ _ hb
  have c4 := cell_of_row w b 4 _ _ _ hb
  have key : ∀ W vv gg, W.heap = w.heap → W.os = w.os → W.tape = w.tape → W.output = w.output → Row 9 w vv gg (s.l.map Value.string) → ∀ ty, ∃ ad n cap w', (Builtin.append_ #[52, 52] ty #[.slice none 0 0, vv]).run Try.prog W = .ok (.slice ad n cap) w' ∧ (∃ g', Row 9 w' (.slice ad n cap) g' (s.l.map Value.string) ∧ ∀ k, g' = some k → w.heap.size ≤ k) ∧ Below w.heap.size w w' := fun W vv gg e1 e2 e3 e4 hrw ty => by
    obtain ⟨ad, n, cap, w', h1, ⟨g', h2, h3⟩, h4⟩ := nil_app Try.underlying52 hi0 hz0 hz1 hz2 rfl (by omega) (hrw.keep (w' := W) fun k _ => by rw [e1]) hsl hone ty
    rw [e1] at h3 h4
    exact ⟨ad, n, cap, w', h1, ⟨g', h2, h3⟩, ⟨h4.os.trans e2, h4.tape.trans e3, h4.output.trans e4, by have := h4.size; rw [e1] at this; exact this, fun k hk => (h4.block k hk).trans (by rw [e1])⟩⟩
  have hmap : (L.map Value.string).drop gone = s.l.map Value.string := by rw [← List.map_drop, hd]
  rcases hr.ex with ⟨a, rfl, e2, _⟩ | ⟨k, o, cap, cur, rfl, e2, h3, h4, h5, h6, h7⟩
  · rw [List.map_eq_nil_iff] at e2
    subst e2
    have hg0 : gone = 0 := by simpa using hgl
    subst hg0
    have hnil : s.l.map Value.string = [] := by rw [← hmap]; rfl
    rw [hnil]
    clear key hb hr hg ho h hd hgl hL hone hsl hmap hnil
    cases a
    all_goals
      go_enter Try.func29, Try.ntmps29
      go_wp2
      go_region
      go_wp2
      go_ret
      exact ⟨none, 0, 0, rfl, ⟨none, Row.nil _ _, fun k e => by cases e⟩, belowN (Below.refl _ w) 1⟩
  · rw [List.length_map] at c3
    have hr1 := hr
    rw [List.length_map] at hr1
    by_cases hc : gone < cap
    · have hro := hr1.drop gone hc
      rw [hmap] at hro
      have HKk : Hid (∀ W, W.heap = w.heap → W.os = w.os → W.tape = w.tape → W.output = w.output → ∀ ty, ∃ ad n cap1 w', (Builtin.append_ #[52, 52] ty #[.slice none 0 0, .slice (some ⟨k, o + gone, none⟩) (L.length - gone) (cap - gone)]).run Try.prog W = .ok (.slice ad n cap1) w' ∧ (∃ g', Row 9 w' (.slice ad n cap1) g' (s.l.map Value.string) ∧ ∀ k, g' = some k → w.heap.size ≤ k) ∧ Below w.heap.size w w') := fun W e1 e2 e3 e4 => key W _ _ e1 e2 e3 e4 hro
      have q1 : (gone : Int) ≤ (L.length : Int) := by omega
      have q2 : (L.length : Int) ≤ (cap : Int) := by rw [List.length_map] at h4; omega
      have q3 : (gone : Int) < (cap : Int) := by omega
      have q4 : (L.length : Int) ≤ 100000 := by omega
      have q5 : ¬ cap = gone := by omega
      clear key hb hr hg ho h hd hgl hL hone hsl hmap hro h3 h4 h5 h6 h7 hr1 hm
      generalize L.length = ll at *
      go_enter Try.func29, Try.ntmps29
      go_wp2
      go_region_law (obtain ⟨ad1, n1, cap1, w1, hrun, hrow, hbel⟩ := HKk.out w.drew rfl rfl rfl rfl 52; refine step_app rfl _ _ 52 rfl (.slice none 0 0) (.slice (some ⟨k, o + gone, none⟩) (ll - gone) (cap - gone)) (by simp [Act.eval, Act.put]) (by simp [Act.eval, Act.put]) hrun ?_)
      all_goals
        go_wp2
        go_ret
        exact ⟨_, _, _, rfl, hrow, hbel⟩
    · have hcg : cap = gone := by rw [List.length_map] at h4; omega
      have hlg : L.length = gone := by rw [List.length_map] at h4; omega
      subst hcg
      have hnil : s.l.map Value.string = [] := by rw [← hmap, List.drop_eq_nil_iff, List.length_map]; omega
      rw [hnil]
      rw [hlg] at c3
      have q4 : (cap : Int) ≤ 100000 := by omega
      clear key hb hr hg ho h hd hgl hL hone hsl hmap h3 h4 h5 h6 h7 hr1 hm hc hlg hnil
      go_enter Try.func29, Try.ntmps29
      go_wp2
      go_region
      go_wp2
      go_ret
      exact ⟨none, 0, 0, rfl, ⟨none, Row.nil _ _, fun k e => by cases e⟩, belowN (Below.refl _ w) 1⟩
end Go.Proofs
