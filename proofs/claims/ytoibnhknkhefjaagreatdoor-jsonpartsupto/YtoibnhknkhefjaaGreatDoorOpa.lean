/-
  A []string that came in; OfMap of any two keys, each with a value or with nil; a path that is written of parts, and what lies under them (plain).
-/
import Derived.Test.YtoibnhknkhefjaaGreatDoorJpa
import Derived.Test.YtoibnhknkhefjaaGreatDoorJrl
import Derived.Test.YtoibnhknkhefjaaGreatDoorOi
import Derived.Test.YtoibnhknkhefjaaGreatDoorProg
import Derived.WalkKit
import Derived.SliceStrings
import Derived.SizedLaws
import Derived.Below
import Derived.Carry
namespace Go.Proofs
open Go.RowKit Go.ChangeShapes Go.WideShapes
theorem Tryz.cellsStr : Tryz.prog.cellsOf 9 = 1 := by kernel_rfl
theorem Tryz.laidOut : laidOutB Tryz.prog = true := by kernel_rfl
/-- A row of texts, nil or not. -/
def Strs (W : World) (v : Value) (l : List ByteArray) : Prop :=
  l.length ≤ maxLen ∧ ∃ a c b off, v = .slice a l.length c ∧ (0 < l.length → a = some ⟨b, off, none⟩ ∧ b < W.heap.size) ∧ ∀ (j : Nat) (X : ByteArray), l[j]? = some X → W.cell? ⟨b, off + j, none⟩ = some (.string X)
theorem Strs.keep {W W' : World} {v : Value} {l : List ByteArray} (h : Strs W v l) (hb : Below W.heap.size W W') : Strs W' v l := by
  obtain ⟨hm, a, c, b, off, h1, h2, h3⟩ := h
  refine ⟨hm, a, c, b, off, h1, fun h0 => ⟨(h2 h0).1, Nat.lt_of_lt_of_le (h2 h0).2 hb.size⟩, fun j X hj => ?_⟩
  have h0 : 0 < l.length := by have := (List.getElem?_eq_some_iff.1 hj).1; omega
  rw [hb.cell (p := ⟨b, off + j, none⟩) (h2 h0).2]
  exact h3 j X hj
theorem Tryz.open_texts {H : Type} {enc : TypeId × Value → H} {W : World} {a0 : Option Addr} {len cap fuel : Nat} {x : DataW H × List MemPlace}
    (hf : DataW.trod enc Tryz.prog W 0 (fun _ => true) true fuel 23 [.slice a0 len cap] = some x) :
    ∃ l : List ByteArray, Strs W (.slice a0 len cap) l ∧ (∀ X ∈ l, ∃ sp, x.1 = .slice (strs l) sp) := by
  rcases open_strings Tryz.underlying23 Tryz.underlying9 Tryz.cellsStr hf with ⟨hcs, hx⟩ | ⟨a, len', cap', ss, hcs, _, hl, hm, hz, hx, hcell, _⟩
  · simp at hcs
    obtain ⟨rfl, rfl, rfl⟩ := hcs
    exact ⟨[], ⟨Nat.zero_le _, none, 0, 0, 0, rfl, fun h => absurd h (by simp), fun j X h => by simp at h⟩, fun X h => by simp at h⟩
  · simp at hcs
    obtain ⟨rfl, rfl, rfl⟩ := hcs
    subst hx
    simp only [if_true] at hz
    obtain ⟨b, off, spot⟩ := a
    have hlen : (ss.take len).length = len := by simp; omega
    refine ⟨ss.take len, ⟨by omega, some ⟨b, off, spot⟩, cap, b, off, by rw [hlen], fun h0 => ?_, fun j X hX => ?_⟩, fun X _ => ⟨_, rfl⟩⟩
    · have hc0 := hcell 0 (by omega)
      have hspot : spot = none := by simpa [Addr.add] using World.cell?_spot hc0
      subst hspot
      exact ⟨rfl, World.block_lt_of_cell? _ _ (by simpa [Addr.add] using hc0)⟩
    · have hj : j < len := by have := (List.getElem?_eq_some_iff.1 hX).1; omega
      have hc := hcell j (by omega)
      have hspot : spot = none := by simpa [Addr.add] using World.cell?_spot (hcell 0 (by omega))
      subst hspot
      have hadd : (⟨b, off, none⟩ : Addr).add j = ⟨b, off + j, none⟩ := by unfold Addr.add; split <;> simp_all
      rw [hadd] at hc
      rw [hc]
      rw [List.getElem?_take_of_lt hj] at hX
      rw [List.getD, hX]
      rfl
theorem weightsAll_strs {H : Type} {P : Program} {e : TypeId} : ∀ (l : List ByteArray) (X : ByteArray), X ∈ l → X.data.toList.length ∈ DataW.weightsAll P e (strs l : List (DataW H))
  | [], X, h => by simp at h
  | Y :: l, X, h => by
    show X.data.toList.length ∈ DataW.weights P e (.lit (.string Y.data.toList)) ++ DataW.weightsAll P e (strs l)
    rcases List.mem_cons.1 h with rfl | h
    · exact List.mem_append_left _ (by simp [DataW.weights])
    · exact List.mem_append_right _ (weightsAll_strs l X h)
theorem sized_texts {H : Type} {P : Program} {ts : List TypeId} {ds : List (DataW H)} (h : (DataW.weightsEach P ts ds).all (· ≤ reachBytes) = true) {j : Nat} {t e : TypeId} {l : List ByteArray} {sp : List (DataW H)} (ht : ts[j]? = some t) (hd : ds[j]? = some (.slice (strs l) sp)) (hu : P.underlying t = some (.slice e)) :
    ∀ X ∈ l, X.size ≤ 140737488351232 := by
  intro X hX
  have hm : X.data.toList.length ∈ DataW.weightsEach P ts ds := DataW.weights_mem_each ht hd _ (by
    simp only [DataW.weights, hu]
    exact List.mem_cons_of_mem _ (List.mem_append_left _ (weightsAll_strs l X hX)))
  have := List.all_eq_true.1 h _ hm
  have e : X.size = X.data.toList.length := Array.length_toList.symm
  rw [e]
  exact of_decide_eq_true this
end Go.Proofs
namespace Go.Proofs
open Go.RowKit Go.Jv Go.Sort Go.Maps
def Jv.D4 (k1 k2 : ByteArray) (o p : Option Nat) : DataW Unit := ((DataW.map []).put (Jv.kl k1) (Jv.ptrD o)).put (Jv.kl k2) (Jv.ptrD p)
theorem Jv.kl_ne {a b : ByteArray} (h : a ≠ b) : Jv.kl a ≠ Jv.kl b := fun e => by
  have := Jv.kl_same a b
  rw [e, Jv.kl_same] at this
  simp at this
  exact h this
theorem Jv.D4_has {k1 k2 : ByteArray} (hne : k1 ≠ k2) (o p : Option Nat) : (∀ k, Maps.has (Jv.D4 k1 k2 o p) k = true → ∃ s ∈ [k1, k2], k = Jv.kl s) ∧ ∀ s ∈ [k1, k2], Maps.has (Jv.D4 k1 k2 o p) (Jv.kl s) = true := by
  have hm : IsMap ((DataW.map [] : DataW Unit).put (Jv.kl k1) (Jv.ptrD o)) := Maps.isMap_empty.put _ _
  constructor
  · intro k hk
    by_cases h1 : k = Jv.kl k1
    · exact ⟨k1, by simp, h1⟩
    · by_cases h2 : k = Jv.kl k2
      · exact ⟨k2, by simp, h2⟩
      · unfold Jv.D4 at hk
        rw [Maps.has_put_other h2, Maps.has_put_other h1] at hk
        cases hk
  · intro s hs
    simp only [List.mem_cons, List.not_mem_nil, or_false] at hs
    unfold Jv.D4
    rcases hs with rfl | rfl
    · rw [Maps.has_put_other (Jv.kl_ne hne)]
      exact Maps.has_put_same Maps.isMap_empty (Jv.kl_key _) _
    · exact Maps.has_put_same hm (Jv.kl_key _) _
theorem Jv.D4_at {k1 k2 : ByteArray} (hne : k1 ≠ k2) (o p : Option Nat) : (Jv.D4 k1 k2 o p).atKey (Jv.kl k1) .nil = Jv.ptrD o ∧ (Jv.D4 k1 k2 o p).atKey (Jv.kl k2) .nil = Jv.ptrD p := by
  unfold Jv.D4
  refine ⟨?_, Maps.atKey_put_same (Maps.isMap_empty.put _ _) (Jv.kl_key _) _ _⟩
  rw [Maps.atKey_put_other (Jv.kl_ne hne)]
  exact Maps.atKey_put_same Maps.isMap_empty (Jv.kl_key _) _ _
/-- A value, or nil, which stands for null. -/
def Tryz.Ov (w : World) (ok : Nat → Prop) (o : Option Nat) (v : V) : Prop := (∃ x, o = some x ∧ Tryz.Tr w ok v x) ∨ (o = none ∧ v = .null)
theorem Tryz.Ov.of {w w' : World} {ok : Nat → Prop} {D : DataW Unit} {xv y : Nat} {s : ByteArray} {o : Option Nat} {v : V} (h : Tryz.Ov w ok o v) (hb : Below w.heap.size w w') (hd : D.atKey (Jv.kl s) .nil = Jv.ptrD o) (hi : Tryz.Item D xv w' s y) (hok : ∀ g, xv ≤ g → ok g) : Tryz.Tr w' ok v y := by
  rcases h with ⟨x, rfl, h⟩ | ⟨rfl, rfl⟩
  · rcases hi with h4 | ⟨h4, _⟩
    · rw [hd] at h4
      have e := Jv.ptrD_inj (a := some x) (b := some y) h4
      injection e with e
      subst e
      exact Tryz.Tr_keep (fun g _ hl => hb.block g hl) hb.size _ _ h
    · rw [hd] at h4; cases h4
  · rcases hi with h4 | ⟨_, h5, h6⟩
    · rw [hd] at h4; cases h4
    · unfold Tryz.Tr
      exact ⟨hok y (Nat.le_of_lt h5), Jv.vb_of h6⟩
theorem Tryz.ofMap_pair {w : World} {b n : Nat} {k1 k2 : ByteArray} {o p : Option Nat} {v u : V} {ok : Nat → Prop} (hlt : Lib.compareBytes k1.data.toList k2.data.toList < 0) (hr1 : rightB k1 = k1) (hr2 : rightB k2 = k2) (hs1 : k1.size ≤ 40000000000000) (hs2 : k2.size ≤ 40000000000000)
    (hown : w.ownsMap Tryz.prog 9 Jv.ptrR b n (Jv.D4 k1 k2 o p)) (hv : Tryz.Ov w ok o v) (hu : Tryz.Ov w ok p u) (hok : ∀ g, w.heap.size ≤ g → ok g) :
    Calls Tryz.prog 21 #[.map (some b)] w fun e w' => ∃ y, e = .returned (.pointer (some ⟨y, 0, none⟩)) ∧ Tryz.Tr w' ok (.obj [k1, k2] [v, u]) y ∧ Below w.heap.size w w' := by
  have hne : k1 ≠ k2 := fun e => by rw [e, Jv.cb_self] at hlt; omega
  have hboth : ∀ s ∈ [k1, k2], rightB s = s ∧ s.size ≤ 40000000000000 := fun s hs => by
    simp only [List.mem_cons, List.not_mem_nil, or_false] at hs
    rcases hs with rfl | rfl
    · exact ⟨hr1, hs1⟩
    · exact ⟨hr2, hs2⟩
  refine (Tryz.ofMap_any hown [k1, k2] (Jv.D4_has hne _ _).1 (Jv.D4_has hne _ _).2 (by simp) (by simp) (by simpa using hlt) (fun s hs => by have := (hboth s hs).2; unfold maxLen; omega) (fun s hs W => ?_)).mono ?_
  · have := Tryz.right_any s (hboth s hs).2 W
    rw [(hboth s hs).1] at this
    exact this
  · rintro e w' ⟨xv, gM, capM, kv, iv, xs, rfl, hxs, hom⟩
    obtain ⟨dA, dB⟩ := Jv.D4_at hne o p
    have hok' : ∀ g, xv ≤ g → ok g := fun g hg => hok g (by have := hom.lo; omega)
    refine ⟨xv, rfl, hom.tr2 hok' hxs [v, u] rfl fun i s y t h1 h2 h3 => ?_, hom.bel⟩
    have hit := hom.its i s y h1 h2
    match i, h1, h3 with
    | 0, h1, h3 =>
      simp at h1 h3
      subst h1 h3
      exact hv.of hom.bel dA hit hok'
    | 1, h1, h3 =>
      simp at h1 h3
      subst h1 h3
      exact hu.of hom.bel dB hit hok'
    | i + 2, h1, _ => simp at h1
end Go.Proofs
namespace Go.Jv
open Go.Lib
/-- A part's byte as it is written in a path. -/
def esc1 (c : UInt8) : List UInt8 := if c = 46 ∨ c = 92 then [92, c] else [c]
def escP (l : List UInt8) : List UInt8 := l.flatMap esc1
theorem escP_cons (c : UInt8) (l : List UInt8) : escP (c :: l) = esc1 c ++ escP l := rfl
theorem escP_app (a b : List UInt8) : escP (a ++ b) = escP a ++ escP b := by unfold escP; rw [List.flatMap_append]
theorem escP_high : ∀ l : List UInt8, (∀ c ∈ l, 128 ≤ c.toNat) → escP l = l
  | [], _ => rfl
  | c :: l, h => by
    have h1 := h c (by simp)
    have h2 : ¬ (c = 46 ∨ c = 92) := by
      rintro (e | e) <;> subst e <;> simp at h1
    rw [escP_cons, escP_high l (fun x hx => h x (by simp [hx])), esc1, if_neg h2]
    rfl
theorem escP_len : ∀ l : List UInt8, (escP l).length ≤ 2 * l.length ∧ l.length ≤ (escP l).length
  | [] => by simp [escP]
  | c :: l => by
    have ih := escP_len l
    rw [escP_cons, List.length_append]
    have h1 : (esc1 c).length ≤ 2 ∧ 1 ≤ (esc1 c).length := by unfold esc1; split <;> simp
    simp
    omega
theorem dec_pos (s : ByteArray) (p : Nat) : 1 ≤ (Utf8.decode s p).2 := by
  rw [← decodeL_drop]; exact decL_pos _
theorem pathF_fuel (s : ByteArray) : ∀ (n m p : Nat) (parts : List ByteArray) (part : List UInt8), s.size ≤ p + n → s.size ≤ p + m → pathF s n p parts part = pathF s m p parts part := by
  intro n
  induction n with
  | zero =>
    intro m p parts part h1 h2
    rw [pathF_end _ _ _ _ _ (by omega), pathF_end _ _ _ _ _ (by omega)]
  | succ n ih =>
    intro m p parts part h1 h2
    by_cases hp : p < s.size
    · obtain ⟨m, rfl⟩ : ∃ m', m = m' + 1 := ⟨m - 1, by omega⟩
      have hd := dec_pos s p
      rw [pathF_step _ _ _ _ _ hp, pathF_step _ _ _ _ _ hp]
      by_cases c1 : 128 ≤ (s.get! p).toNat ∧ (Utf8.decode s p).2 = 1
      · rw [if_pos c1, if_pos c1]
      · rw [if_neg c1, if_neg c1]
        by_cases c2 : (s.get! p).toNat = 46
        · rw [if_pos c2, if_pos c2]
          exact ih m _ _ _ (by omega) (by omega)
        · rw [if_neg c2, if_neg c2]
          by_cases c3 : (s.get! p).toNat ≠ 92
          · rw [if_pos c3, if_pos c3]
            exact ih m _ _ _ (by omega) (by omega)
          · rw [if_neg c3, if_neg c3]
            by_cases c4 : p + 1 = s.size ∨ ((s.get! (p + 1)).toNat ≠ 46 ∧ (s.get! (p + 1)).toNat ≠ 92)
            · rw [if_pos c4, if_pos c4]
            · rw [if_neg c4, if_neg c4]
              exact ih m _ _ _ (by omega) (by omega)
    · rw [pathF_end _ _ _ _ _ hp, pathF_end _ _ _ _ _ hp]
/-- A part that is under way, to its end. -/
theorem path_esc (s : ByteArray) : ∀ (k : Nat) (r : List UInt8), r.length ≤ k → validD r = true → ∀ (p n : Nat) (tail : List UInt8) (parts : List ByteArray) (part : List UInt8), s.data.toList.drop p = escP r ++ tail → s.size ≤ p + n → pathF s n p parts part = pathF s n (p + (escP r).length) parts (part ++ r) := by
  intro k
  induction k with
  | zero =>
    intro r hr _ p n tail parts part h hn
    obtain rfl := List.eq_nil_of_length_eq_zero (Nat.le_zero.1 hr)
    simp [escP]
  | succ k ih =>
    intro r hr hv p n tail parts part h hn
    cases r with
    | nil => simp [escP]
    | cons c l =>
      rw [validD_step _ (by simp)] at hv
      split at hv
      · cases hv
      · rename_i hw
        have hpos := decL_pos (c :: l)
        have hle := decodeL_le (c :: l) (by simp)
        by_cases h128 : 128 ≤ c.toNat
        · have hsplit : (c :: l) = (c :: l).take (decodeL (c :: l)).2 ++ (c :: l).drop (decodeL (c :: l)).2 := (List.take_append_drop _ _).symm
          have hq : escP (c :: l) = (c :: l).take (decodeL (c :: l)).2 ++ escP ((c :: l).drop (decodeL (c :: l)).2) := by
            conv => lhs; rw [hsplit, escP_app, escP_high _ (take_high hw h128)]
          rw [hq, List.append_assoc] at h
          have hD : Utf8.decode s p = decodeL (c :: l) := by rw [← decodeL_drop, h, decL_take (by simp) hw]
          have hlen : ((c :: l).take (decodeL (c :: l)).2).length = (decodeL (c :: l)).2 := by rw [List.length_take]; omega
          have h2 := sx_app h
          rw [hlen] at h2
          have hhead : ∃ t, s.data.toList.drop p = c :: t := by
            rw [h]
            obtain ⟨m, hm⟩ : ∃ m, (decodeL (c :: l)).2 = m + 1 := ⟨_, (Nat.sub_add_cancel hpos).symm⟩
            rw [hm]
            exact ⟨_, rfl⟩
          obtain ⟨t, ht⟩ := hhead
          obtain ⟨g1, g2, -⟩ := sx_next ht
          obtain ⟨n, rfl⟩ : ∃ n', n = n' + 1 := ⟨n - 1, by omega⟩
          have hne1 : ¬ (128 ≤ (s.get! p).toNat ∧ (Utf8.decode s p).2 = 1) := by
            rintro ⟨e1, e2⟩
            apply hw
            rw [← hD]
            refine ⟨?_, e2⟩
            rw [Lib.decode_at] at e2 ⊢
            revert e2
            unfold Lib.decodeN
            repeat' split
            all_goals first | (exfalso; omega) | (intro _; rfl) | (intro h; simp at h)
          rw [pathF_step _ _ _ _ _ g1, if_neg hne1, g2, if_neg (by omega), if_pos (by omega), hD]
          have hex : (s.extract p (p + (decodeL (c :: l)).2)).data.toList = (c :: l).take (decodeL (c :: l)).2 := by
            have : (s.extract p (p + (decodeL (c :: l)).2)).data.toList = (s.data.toList.drop p).take (decodeL (c :: l)).2 := by simp [List.take_drop]
            rw [this, h, List.take_left' hlen]
          rw [hex, pathF_fuel s n (n + 1) _ _ _ (by omega) (by omega), ih _ (by simp at hr ⊢; omega) hv _ _ _ _ _ h2 (by omega), hq, List.length_append, hlen, List.append_assoc, ← hsplit, Nat.add_assoc]
        · have hD : decodeL (c :: l) = (c.toNat, 1) := by
            rw [decodeL_N]
            exact Lib.decodeN_ascii _ _ _ _ _ (by simpa using h128)
          rw [hD] at hv
          simp only [List.drop_succ_cons, List.drop_zero] at hv
          rw [escP_cons, List.append_assoc] at h
          by_cases hc : c = 46 ∨ c = 92
          · have he : esc1 c = [92, c] := by rw [esc1, if_pos hc]
            rw [he] at h
            obtain ⟨g1, g2, g3⟩ := sx_next h
            obtain ⟨g4, g5, g6⟩ := sx_next g3
            obtain ⟨n, rfl⟩ : ∃ n', n = n' + 1 := ⟨n - 1, by omega⟩
            have hcc : ¬ (p + 1 = s.size ∨ ((s.get! (p + 1)).toNat ≠ 46 ∧ (s.get! (p + 1)).toNat ≠ 92)) := by
              rw [g5]
              rintro (e | ⟨e1, e2⟩)
              · omega
              · rcases hc with rfl | rfl
                · exact e1 rfl
                · exact e2 rfl
            rw [pathF_step _ _ _ _ _ g1, if_neg (by rw [g2]; simp), if_neg (by rw [g2]; decide), if_neg (by rw [g2]; decide), if_neg hcc, g5, pathF_fuel s n (n + 1) _ _ _ (by omega) (by omega), ih l (by simp at hr; omega) hv (p + 2) _ _ _ _ g6 (by omega), escP_cons, he, List.length_append]
            simp [Nat.add_assoc]
          · have he : esc1 c = [c] := by rw [esc1, if_neg hc]
            rw [he] at h
            obtain ⟨g1, g2, g3⟩ := sx_next h
            obtain ⟨n, rfl⟩ : ∃ n', n = n' + 1 := ⟨n - 1, by omega⟩
            have hdp : (Utf8.decode s p).2 = 1 := by
              rw [Lib.decode_at, Lib.decodeN_ascii _ _ _ _ _ (by rw [g2]; omega)]
            have c1 : c.toNat ≠ 46 := fun e => hc (.inl (UInt8.toNat_inj.1 e))
            have c2 : c.toNat ≠ 92 := fun e => hc (.inr (UInt8.toNat_inj.1 e))
            have hex : (s.extract p (p + 1)).data.toList = [c] := by
              have : (s.extract p (p + 1)).data.toList = (s.data.toList.drop p).take 1 := by simp [List.take_drop]
              rw [this, h]; rfl
            rw [pathF_step _ _ _ _ _ g1, if_neg (by rw [g2]; omega), if_neg (by rw [g2]; exact c1), if_pos (by rw [g2]; exact c2), hdp, hex, pathF_fuel s n (n + 1) _ _ _ (by omega) (by omega), ih l (by simp at hr; omega) hv (p + 1) _ _ _ _ g3 (by omega), escP_cons, he, List.length_append]
            simp [Nat.add_assoc]
/-- Parts with dots between. -/
def dots (l : List ByteArray) : List UInt8 := l.flatMap fun x => 46 :: escP x.data.toList
def joinP (l : List ByteArray) : List UInt8 := (dots l).drop 1
theorem joinP_cons (x : ByteArray) (r : List ByteArray) : joinP (x :: r) = escP x.data.toList ++ dots r := rfl
theorem joinP_one (x : ByteArray) : joinP [x] = escP x.data.toList := by rw [joinP_cons]; simp [dots]
theorem joinP_more {l : List ByteArray} (h : l ≠ []) (x : ByteArray) : joinP (l ++ [x]) = joinP l ++ 46 :: escP x.data.toList := by
  cases l with
  | nil => exact absurd rfl h
  | cons y r =>
    rw [List.cons_append, joinP_cons, joinP_cons, List.append_assoc]
    congr 1
    simp [dots]
theorem path_dots (s : ByteArray) : ∀ (r : List ByteArray) (x : ByteArray) (p n : Nat) (parts : List ByteArray) (part : List UInt8), validD x.data.toList = true → (∀ y ∈ r, validD y.data.toList = true) → s.data.toList.drop p = escP x.data.toList ++ dots r → s.size ≤ p + n →
    pathF s n p parts part = .ok (parts ++ [⟨(part ++ x.data.toList).toArray⟩] ++ r) := by
  intro r
  induction r with
  | nil =>
    intro x p n parts part hx _ h hn
    rw [path_esc s _ _ (Nat.le_refl _) hx p n _ parts part h hn]
    have h2 := sx_size h
    simp only [dots, List.flatMap_nil, List.append_nil] at h2
    rw [pathF_end _ _ _ _ _ (by omega), List.append_nil]
  | cons y r ih =>
    intro x p n parts part hx hr h hn
    rw [path_esc s _ _ (Nat.le_refl _) hx p n _ parts part h hn]
    have h2 := sx_app h
    rw [show dots (y :: r) = 46 :: (escP y.data.toList ++ dots r) from rfl] at h2
    obtain ⟨g1, g2, g3⟩ := sx_next h2
    obtain ⟨n, rfl⟩ : ∃ n', n = n' + 1 := ⟨n - 1, by omega⟩
    have hdp : (Utf8.decode s (p + (escP x.data.toList).length)).2 = 1 := by
      rw [Lib.decode_at, Lib.decodeN_ascii _ _ _ _ _ (by rw [g2]; decide)]
    rw [pathF_step _ _ _ _ _ g1, if_neg (by rw [g2]; simp), if_pos (by rw [g2]; decide), hdp, pathF_fuel s n (n + 1) _ _ _ (by omega) (by omega), ih y _ _ _ _ (hr y (by simp)) (fun z hz => hr z (by simp [hz])) g3 (by omega)]
    simp
theorem path_join {l : List ByteArray} (h0 : l ≠ []) (hv : ∀ y ∈ l, validD y.data.toList = true) (hs : (joinP l).length ≤ 200) : path ⟨(joinP l).toArray⟩ = .ok l := by
  cases l with
  | nil => exact absurd rfl h0
  | cons x r =>
    have hz : (⟨(joinP (x :: r)).toArray⟩ : ByteArray).size = (joinP (x :: r)).length := by simp [ByteArray.size]
    unfold path
    rw [if_neg (by omega), path_dots _ r x 0 _ [] [] (hv x (by simp)) (fun y hy => hv y (by simp [hy])) (by simp [joinP_cons]) (by omega)]
    simp
/-- x, behind a text. -/
def kx (s : ByteArray) : ByteArray := s ++ ⟨#[120]⟩
theorem kx_list (s : ByteArray) : (kx s).data.toList = s.data.toList ++ [120] := by simp [kx, ByteArray.data_append]
theorem validD_app1 : ∀ (k : Nat) (l : List UInt8), l.length ≤ k → validD l = true → validD (l ++ [120]) = true := by
  intro k
  induction k with
  | zero =>
    intro l hl _
    obtain rfl := List.eq_nil_of_length_eq_zero (Nat.le_zero.1 hl)
    decide
  | succ k ih =>
    intro l hl hv
    by_cases hne : l = []
    · subst hne; decide
    · rw [validD_step _ hne] at hv
      split at hv
      · cases hv
      · rename_i hw
        have hpos := decL_pos l
        have hle := decodeL_le l hne
        have hsplit : l ++ [120] = l.take (decodeL l).2 ++ (l.drop (decodeL l).2 ++ [120]) := by rw [← List.append_assoc, List.take_append_drop]
        have hD : decodeL (l ++ [120]) = decodeL l := by rw [hsplit, decL_take hne hw]
        rw [validD_step _ (by simp), hD, if_neg hw, List.drop_append_of_le_length hle]
        exact ih _ (by simp; omega) hv
theorem kx_right {s : ByteArray} (h : validD s.data.toList = true) : rightB (kx s) = kx s := rightB_id (by rw [kx_list]; exact validD_app1 _ _ (Nat.le_refl _) h)
theorem cb_longer : ∀ (a : List UInt8) (c : UInt8), Lib.compareBytes a (a ++ [c]) < 0
  | [], c => by simp [Lib.compareBytes]
  | x :: a, c => by
    have ih := cb_longer a c
    have hx : ¬ x < x := fun e => by simp at e
    simp only [List.cons_append, Lib.compareBytes, hx, if_false]
    exact ih
theorem bl_self : ∀ a : List UInt8, Op.bytesLess a a = false
  | [] => rfl
  | x :: a => by
    have hx : ¬ x < x := fun e => by simp at e
    simp [Op.bytesLess, hx, bl_self a]
theorem bl_longer : ∀ (a : List UInt8) (c : UInt8), Op.bytesLess (a ++ [c]) a = false
  | [], c => rfl
  | x :: a, c => by
    have hx : ¬ x < x := fun e => by simp at e
    simp [Op.bytesLess, hx, bl_longer a c]
theorem bsGo_at (less : Nat → Bool) (k N : Nat) (h1 : ∀ t, t < k → less t = true) (h2 : ∀ t, k ≤ t → t < N → less t = false) : ∀ (f lo hi : Nat), hi - lo ≤ f → lo ≤ k → k ≤ hi → hi ≤ N → bsGo less f lo hi = k := by
  intro f
  induction f with
  | zero => intro lo hi a b c _; rw [bsGo]; omega
  | succ f ih =>
    intro lo hi a b c d
    rw [bsGo]
    by_cases hlt : lo < hi
    · rw [if_pos hlt]
      by_cases hm : (lo + hi) / 2 < k
      · rw [h1 _ hm, if_pos rfl]
        exact ih _ _ (by omega) (by omega) c d
      · rw [h2 _ (by omega) (by omega), if_neg (by simp)]
        exact ih _ _ (by omega) b (by omega) (by omega)
    · rw [if_neg hlt]; omega
theorem place_kx (x : ByteArray) : place [x, kx x] x = 0 := by
  unfold place
  refine bsGo_at _ 0 2 (fun t ht => by omega) (fun t _ h2 => ?_) _ _ _ (by simp) (by omega) (by omega) (by simp)
  match t, h2 with
  | 0, _ => exact bl_self _
  | 1, _ =>
    show Op.bytesLess (kx x).data.toList x.data.toList = false
    rw [kx_list]
    exact bl_longer _ _
/-- What JsonParts builds: 7, under these parts. -/
def nest : List ByteArray → V
  | [] => .int 7
  | x :: r => .obj [x, kx x] [nest r, .null]
theorem look_nest : ∀ l : List ByteArray, lookV (nest l) l = some (.int 7)
  | [] => by simp [lookV, nest]
  | x :: r => by
    rw [lookV_step (u := nest r), look_nest r]
    show getV (.obj [x, kx x] [nest r, .null]) x = some (nest r)
    rw [getV_obj, place_kx, if_pos (show [x, kx x][0]? = some x from rfl)]
    rfl
def Nst (v : V) : Prop := (∃ l, v = nest l) ∨ v = .null
theorem Nst.obj {ks : List ByteArray} {vs : List V} (h : Nst (.obj ks vs)) : ks.length ≤ 64 ∧ vs.length = ks.length ∧ ∀ u ∈ vs, Nst u := by
  rcases h with ⟨l, h⟩ | h
  · cases l with
    | nil => cases h
    | cons x r =>
      injection h with h1 h2
      subst h1 h2
      refine ⟨by simp, rfl, fun u hu => ?_⟩
      simp only [List.mem_cons, List.not_mem_nil, or_false] at hu
      rcases hu with rfl | rfl
      · exact .inl ⟨r, rfl⟩
      · exact .inr rfl
  · cases h
end Go.Jv
