/-
  JsonParts: the walk.
-/
import Derived.Test.YtoibnhknkhefjaaGreatDoorOpa
import Derived.Deep.CutBlock
namespace Go.Jv
theorem dots_len : ∀ (l : List ByteArray) (y : ByteArray), y ∈ l → y.size + 1 ≤ (dots l).length
  | [], y, h => by simp at h
  | x :: l, y, h => by
    have hd : dots (x :: l) = 46 :: (escP x.data.toList ++ dots l) := rfl
    rw [hd]
    rcases List.mem_cons.1 h with rfl | h
    · have := (escP_len y.data.toList).2
      rw [Lib.size_eq]
      simp at this ⊢
      omega
    · have := dots_len l y h
      simp at this ⊢
      omega
theorem join_mem {l : List ByteArray} {y : ByteArray} (h : y ∈ l) (hs : (joinP l).length ≤ 200) : y.size ≤ 200 := by
  have := dots_len l y h
  unfold joinP at hs
  rw [List.length_drop] at hs
  omega
end Go.Jv
namespace Go.Proofs
open Go.RowKit Go.Jv Go.Sort Go.Maps
theorem Jv.ba_app (a b : List UInt8) : (⟨a.toArray⟩ : ByteArray) ++ ⟨b.toArray⟩ = ⟨(a ++ b).toArray⟩ := by
  apply ByteArray.ext
  simp [ByteArray.data_append]
/-- Parts, and a row of them. -/
structure Tryz.Pt (w wr : World) (ps : List ByteArray) (lv : Value) : Prop where
  val : ∀ y ∈ ps, Lib.validD y.data.toList = true
  siz : (joinP ps).length ≤ 200
  len : ps.length ≤ 9
  row : wr.ownsRow w.heap.size 9 1 lv ps.length (Jv.txts ps)
  bel : Below w.heap.size w wr
/-- p[:k], written, and one sign more. -/
theorem Jv.esc_step (p : ByteArray) (k : Nat) (h : k < p.size) :
    ((p.get! k = 46 ∨ p.get! k = 92) → (⟨(escP (p.data.toList.take k)).toArray⟩ : ByteArray) ++ ⟨#[92]⟩ ++ p.extract k (k + 1) = ⟨(escP (p.data.toList.take (k + 1))).toArray⟩) ∧
    (¬ (p.get! k = 46 ∨ p.get! k = 92) → (⟨(escP (p.data.toList.take k)).toArray⟩ : ByteArray) ++ p.extract k (k + 1) = ⟨(escP (p.data.toList.take (k + 1))).toArray⟩) := by
  have hk : k < p.data.toList.length := by rw [← Lib.size_eq]; exact h
  have hc : p.data.toList[k]? = some (p.get! k) := by
    rw [List.getElem?_eq_getElem hk]
    congr 1
    have := Sg.get!_drop p k 0
    rw [Nat.add_zero] at this
    rw [this, List.getD_eq_getElem?_getD, List.getElem?_drop, Nat.add_zero, List.getElem?_eq_getElem hk]
    rfl
  have ht : p.data.toList.take (k + 1) = p.data.toList.take k ++ [p.get! k] := by
    rw [List.take_add_one, hc]; rfl
  have hx : (p.extract k (k + 1)).data.toList = [p.get! k] := by
    have : (p.extract k (k + 1)).data.toList = (p.data.toList.drop k).take 1 := by simp [List.take_drop]
    rw [this, List.drop_eq_getElem_cons hk, List.take_succ_cons, List.take_zero]
    rw [List.getElem?_eq_getElem hk] at hc
    rw [Option.some.inj hc]
  constructor
  · intro hcc
    apply ByteArray.ext
    apply Array.toList_inj.1
    rw [ByteArray.data_append, ByteArray.data_append, Array.toList_append, Array.toList_append, hx, ht, escP_app]
    simp [escP, esc1, hcc]
  · intro hcc
    apply ByteArray.ext
    apply Array.toList_inj.1
    rw [ByteArray.data_append, Array.toList_append, hx, ht, escP_app]
    simp [escP, esc1, hcc]
/-- OfMap of two keys, the greater put in first. -/
theorem Tryz.ofMap_pair2 {w : World} {b n : Nat} {k1 k2 : ByteArray} {o p : Option Nat} {v u : V} {ok : Nat → Prop} (hlt : Lib.compareBytes k1.data.toList k2.data.toList < 0) (hr1 : rightB k1 = k1) (hr2 : rightB k2 = k2) (hs1 : k1.size ≤ 40000000000000) (hs2 : k2.size ≤ 40000000000000)
    (hown : w.ownsMap Tryz.prog 9 Jv.ptrR b n (Jv.D4 k2 k1 p o)) (hv : Tryz.Ov w ok o v) (hu : Tryz.Ov w ok p u) (hok : ∀ g, w.heap.size ≤ g → ok g) :
    Calls Tryz.prog 21 #[.map (some b)] w fun e w' => ∃ y, e = .returned (.pointer (some ⟨y, 0, none⟩)) ∧ Tryz.Tr w' ok (.obj [k1, k2] [v, u]) y ∧ Below w.heap.size w w' := by
  have hne : k2 ≠ k1 := fun e => by rw [e, Jv.cb_self] at hlt; omega
  have hboth : ∀ s ∈ [k1, k2], rightB s = s ∧ s.size ≤ 40000000000000 := fun s hs => by
    simp only [List.mem_cons, List.not_mem_nil, or_false] at hs
    rcases hs with rfl | rfl
    · exact ⟨hr1, hs1⟩
    · exact ⟨hr2, hs2⟩
  have hsw : ∀ s : ByteArray, s ∈ [k2, k1] ↔ s ∈ [k1, k2] := fun s => by simp [or_comm]
  refine (Tryz.ofMap_any hown [k1, k2] (fun k hk => by obtain ⟨s, h1, h2⟩ := (Jv.D4_has hne _ _).1 k hk; exact ⟨s, (hsw s).1 h1, h2⟩) (fun s hs => (Jv.D4_has hne _ _).2 s ((hsw s).2 hs)) (by simp) (by simp) (by simpa using hlt) (fun s hs => by have := (hboth s hs).2; unfold maxLen; omega) (fun s hs W => ?_)).mono ?_
  · have := Tryz.right_any s (hboth s hs).2 W
    rw [(hboth s hs).1] at this
    exact this
  · rintro e w' ⟨xv, gM, capM, kv, iv, xs, rfl, hxs, hom⟩
    obtain ⟨dB, dA⟩ := Jv.D4_at hne p o
    have hok' : ∀ g, xv ≤ g → ok g := fun g hg => hok g (by have := hom.lo; omega)
    refine ⟨xv, rfl, hom.tr2 hok' hxs [v, u] rfl fun i s y t h1 h2 h3 => ?_, hom.bel⟩
    have hit := hom.its i s y h1 h2
    match i, h1, h3 with
    | 0, h1, h3 =>
      simp at h1 h3
      subst h1 h3
      exact hv.of hom.bel dA hit hok'
    | 1, h1, h3 =>
      simp at h1 h3
      subst h1 h3
      exact hu.of hom.bel dB hit hok'
    | i + 2, h1, _ => simp at h1
/-- One part more, in the one order and in the other. -/
theorem Tryz.nest_map {wr : World} {x : Nat} {r : List ByteArray} {k : ByteArray} (hk : Lib.validD k.data.toList = true) (hs : k.size ≤ 200) (ht : Tryz.Tr wr (fun _ => True) (nest r) x) (first : Bool) :
    ∃ W2 W4, (Instr.mapUpdate 53 (.map (some wr.heap.size)) (.string (if first then k else k ++ ⟨#[120]⟩)) (.pointer (if first then some ⟨x, 0, none⟩ else none))).run Tryz.prog (wr.alloc (.map #[] 0)).drew = .ok () W2 ∧
      (Instr.mapUpdate 53 (.map (some wr.heap.size)) (.string (if first then k ++ ⟨#[120]⟩ else k)) (.pointer (if first then none else some ⟨x, 0, none⟩))).run Tryz.prog W2 = .ok () W4 ∧
      (∀ p : Addr, p.block < wr.heap.size → W2.cell? p = wr.cell? p) ∧
      Calls Tryz.prog 21 #[.map (some wr.heap.size)] W4 fun e w' => ∃ y, e = .returned (.pointer (some ⟨y, 0, none⟩)) ∧ Tryz.Tr w' (fun _ => True) (nest (k :: r)) y ∧ Below wr.heap.size wr w' := by
  have hkz : (kx k).size = k.size + 1 := by
    rw [Lib.size_eq, Lib.size_eq, kx_list]; simp
  have hbd : Below wr.heap.size wr wr.drew := (Below.refl _ _).drew
  have htd : Tryz.Tr wr.drew (fun _ => True) (nest r) x := Tryz.Tr_keep (w := wr) (w' := wr.drew) (fun g _ _ => rfl) (Nat.le_refl _) _ _ ht
  cases first with
  | true =>
    obtain ⟨W2, hr2, hm2, hg2⟩ := (World.ownsMap_made wr.drew Tryz.prog 9 Jv.ptrR).update Tryz.strK Tryz.underlying53 (by unfold maxLen; omega) (WideMaps.keyOf_string_mk Tryz.underlying9 (s := k) (by unfold maxLen; omega)) (Jv.ptrR_mk (some x))
    obtain ⟨W4, hr4, hm4, hg4⟩ := hm2.update Tryz.strK Tryz.underlying53 (by unfold maxLen; omega) (WideMaps.keyOf_string_mk Tryz.underlying9 (s := kx k) (by unfold maxLen; omega)) (Jv.ptrR_mk none)
    have hs2 : wr.heap.size + 1 ≤ W2.heap.size := by have := hg2.size; simpa using this
    have hb2 : Below wr.heap.size wr W2 := (hbd.alloc (Nat.le_refl _) _).grown hg2 (by simp) (fun k hk => by injection hk with hk; exact Nat.le_of_eq hk)
    have hbe : Below wr.heap.size wr W4 := hb2.grown hg4 (by omega) (fun k hk => by injection hk with hk; exact Nat.le_of_eq hk)
    refine ⟨W2, W4, hr2, hr4, fun p hp => hb2.cell hp, (Tryz.ofMap_pair (v := nest r) (u := .null) (ok := fun _ => True) (k1 := k) (k2 := kx k) (by rw [kx_list]; exact cb_longer _ _) (rightB_id hk) (kx_right hk) (by omega) (by omega) hm4 (.inl ⟨x, rfl, Tryz.Tr_keep (fun g _ hl => hbe.block g hl) hbe.size _ _ ht⟩) (.inr ⟨rfl, rfl⟩) (fun _ _ => trivial)).mono ?_⟩
    rintro e w' ⟨y, h1, h2, h3⟩
    exact ⟨y, h1, h2, hbe.trans (h3.mono hbe.size)⟩
  | false =>
    obtain ⟨W2, hr2, hm2, hg2⟩ := (World.ownsMap_made wr.drew Tryz.prog 9 Jv.ptrR).update Tryz.strK Tryz.underlying53 (by unfold maxLen; omega) (WideMaps.keyOf_string_mk Tryz.underlying9 (s := kx k) (by unfold maxLen; omega)) (Jv.ptrR_mk none)
    obtain ⟨W4, hr4, hm4, hg4⟩ := hm2.update Tryz.strK Tryz.underlying53 (by unfold maxLen; omega) (WideMaps.keyOf_string_mk Tryz.underlying9 (s := k) (by unfold maxLen; omega)) (Jv.ptrR_mk (some x))
    have hs2 : wr.heap.size + 1 ≤ W2.heap.size := by have := hg2.size; simpa using this
    have hb2 : Below wr.heap.size wr W2 := (hbd.alloc (Nat.le_refl _) _).grown hg2 (by simp) (fun k hk => by injection hk with hk; exact Nat.le_of_eq hk)
    have hbe : Below wr.heap.size wr W4 := hb2.grown hg4 (by omega) (fun k hk => by injection hk with hk; exact Nat.le_of_eq hk)
    refine ⟨W2, W4, hr2, hr4, fun p hp => hb2.cell hp, (Tryz.ofMap_pair2 (v := nest r) (u := .null) (ok := fun _ => True) (k1 := k) (k2 := kx k) (by rw [kx_list]; exact cb_longer _ _) (rightB_id hk) (kx_right hk) (by omega) (by omega) hm4 (.inl ⟨x, rfl, Tryz.Tr_keep (fun g _ hl => hbe.block g hl) hbe.size _ _ ht⟩) (.inr ⟨rfl, rfl⟩) (fun _ _ => trivial)).mono ?_⟩
    rintro e w' ⟨y, h1, h2, h3⟩
    exact ⟨y, h1, h2, hbe.trans (h3.mono hbe.size)⟩
theorem Tryz.Pt.below {w wr W : World} {ps : List ByteArray} {lv : Value} (h : Tryz.Pt w wr ps lv) (hb : Below wr.heap.size wr W) : Tryz.Pt w W ps lv :=
  ⟨h.val, h.siz, h.len, Jv.rowBel h.row hb, h.bel.trans (hb.mono h.bel.size)⟩
theorem Tryz.Pt.form {w wr : World} {ps : List ByteArray} {lv : Value} (h : Tryz.Pt w wr ps lv) : ∃ a c, lv = .slice a ps.length c := by
  rcases h.row.2 with ⟨e, e2⟩ | ⟨g, c, _, e, _⟩
  · exact ⟨none, 0, by rw [e, e2]⟩
  · exact ⟨_, c, e⟩
theorem Tryz.Pt.next {w wr W W5 : World} {ps : List ByteArray} {P : ByteArray} {lv v' : Value} {o : Obj} (h : Tryz.Pt w wr ps lv) (hb : Below wr.heap.size wr W) (hP : Lib.validD P.data.toList = true) (hs : (joinP (ps ++ [P])).length ≤ 200) (hl : ps.length < 9) (hg : (W.alloc o).grownBy W5 lv.ownBlock) (ho : W5.ownsRow w.heap.size 9 1 v' (ps.length + 1) (Jv.txts ps ++ [.string P])) :
    Tryz.Pt w W5 (ps ++ [P]) v' := by
  have hz := h.bel.size
  have hz2 := hb.size
  refine ⟨fun y hy => ?_, hs, by simp; omega, ?_, ?_⟩
  · simp only [List.mem_append, List.mem_singleton] at hy
    rcases hy with hy | rfl
    · exact h.val y hy
    · exact hP
  · have e : Jv.txts (ps ++ [P]) = Jv.txts ps ++ [.string P] := by simp [Jv.txts]
    rw [e, List.length_append]
    exact ho
  · exact ((h.bel.trans (hb.mono hz)).alloc (by omega) o).grown hg (by simp; omega) (fun k hk => (Jv.row_lo h.row k hk).1)
set_option maxRecDepth 100000 in
set_option maxHeartbeats 4000000 in
theorem Tryz.jsonPartsWalk (v : Value) {w : World} (hp : ∃ l, Strs w v l ∧ ∀ X ∈ l, X.size ≤ 1048576) (hT : Tryz.Tb w) :
    Calls Tryz.prog 7 #[v] w fun e w' => e = .returned (.bool true) ∧ Below w.heap.size w w' := by
  obtain ⟨L, hst, hX⟩ := hp
  obtain ⟨pa, pc, rfl⟩ : ∃ a c, v = .slice a L.length c := by obtain ⟨-, a, c, -, -, h, -⟩ := hst; exact ⟨a, c, h⟩
  have hml : L.length ≤ maxLen := hst.1
  unfold maxLen at hml
  have hSt : ∀ W, Below w.heap.size w W → ∀ (j : Nat) (X : ByteArray), L[j]? = some X → ∃ b off, pa = some ⟨b, off, none⟩ ∧ b < W.heap.size ∧ W.cell? ⟨b, off + j, none⟩ = some (.string X) := fun W hW j X hj => by
    obtain ⟨-, a, c, b, off, h1, h2, h3⟩ := hst.keep hW
    have h0 : 0 < L.length := by have := (List.getElem?_eq_some_iff.1 hj).1; omega
    injection h1 with h1
    exact ⟨b, off, h1.trans (h2 h0).1, (h2 h0).2, h3 j X hj⟩
  have ha := Tryz.awake_any w hT
  have HT : Hid (Tryz.Tb w) := hT
  have HST : Hid (∀ W, Below w.heap.size w W → ∀ (j : Nat) (X : ByteArray), L[j]? = some X → ∃ b off, pa = some ⟨b, off, none⟩ ∧ b < W.heap.size ∧ W.cell? ⟨b, off + j, none⟩ = some (.string X)) := hSt
  have HX : Hid (∀ X ∈ L, X.size ≤ 1048576) := hX
  clear hT hSt hst hX
  go_enter Tryz.func7, Tryz.ntmps7
  go_upto_block 0 with (first
    | (go_at_call 8; refine ha.mono ?_; clear ha; rintro e1 w1 ⟨rfl, hb1⟩; have hof := Tryz.ofInt_any 7 w1)
    | (go_at_call 22; refine hof.mono ?_; clear hof; rintro e3 w3 ⟨rfl, hw3⟩
       have hb3 : Below w.heap.size w w3 := by rw [hw3]; exact hb1.alloc hb1.size _
       have h7 : Tryz.Tr w3 (fun _ => True) (.int 7) w1.heap.size := by
         rw [hw3]
         unfold Tryz.Tr
         exact ⟨⟨trivial, by decide, by decide⟩, Jv.Vb.new w1 2 false 7 emp Jv.nilS Jv.nilS _⟩
       have HB3 : Hid (Below w.heap.size w w3) := hb3
       have H7 : Hid (Tryz.Tr w3 (fun _ => True) (.int 7) w1.heap.size) := h7
       clear hb3 h7 hw3 hb1)
    | fail)
  go_cut [4, 5] from 20 to 78 (fun s lv wx => ∃ ps, s = .string ⟨(joinP ps).toArray⟩ ∧ Tryz.Pt w3 wx ps lv)
  case first =>
    go_wp2
    go_loopw [4, 5, 7] (fun s lv i wr => ∃ ps : List ByteArray, i = .int .i64 ps.length ∧ ps.length ≤ L.length ∧ s = .string ⟨(joinP ps).toArray⟩ ∧ Tryz.Pt w3 wr ps lv) (fun _ _ i _ => 9 - (intOf i).toNat)
    case atStart => exact ⟨[], rfl, Nat.zero_le _, rfl, ⟨fun y hy => by simp at hy, by simp [joinP, dots], by simp, World.ownsRow_nil _ _ _ _, Below.refl _ _⟩⟩
    case round =>
      obtain ⟨ps, rfl, hpl, rfl, hpt⟩ := hrel
      have hp9 := hpt.len
      by_cases hk : ps.length < L.length ∧ ps.length < 9
      · have q0 : (ps.length : Int) < (L.length : Int) := by omega
        have q1 : (ps.length : Int) < 9 := by omega
        obtain ⟨pb, po, rfl, hpb, hcx⟩ := HST.out wr (HB3.out.trans (hpt.bel.mono HB3.out.size)) ps.length _ (List.getElem?_eq_getElem hk.1)
        have hxz := HX.out _ (List.getElem_mem hk.1)
        generalize L[ps.length] = X at *
        have hrr := Tryz.refRight_any X (by omega) wr
        have hPz := rightB_size X
        have hPv := rightB_valid X
        generalize rightB X = P at *
        obtain ⟨la, lc, rfl⟩ : ∃ a c, u5 = .slice a ps.length c := by
          rcases hpt.row.2 with ⟨e, e2⟩ | ⟨g, c, _, e, _⟩
          · exact ⟨none, 0, by rw [e, e2]⟩
          · exact ⟨_, c, e⟩
        have HPT : Hid (Tryz.Pt w3 wr ps (.slice la ps.length lc)) := hpt
        have HPV : Hid (Lib.validD P.data.toList = true) := hPv
        have hwz := hpt.bel.size
        have hjz := hpt.siz
        obtain ⟨S, hS⟩ : ∃ S, S = (⟨(joinP ps).toArray⟩ : ByteArray) := ⟨_, rfl⟩
        have hSz : S.size = (joinP ps).length := by rw [hS]; simp [ByteArray.size]
        rw [← hS]
        have HS : Hid (S = (⟨(joinP ps).toArray⟩ : ByteArray)) := hS
        clear hpt hPv hS
        go_wp2_with (first
          | (go_at_call 13; refine hrr.mono ?_; clear hrr; rintro e4 w4 ⟨rfl, hb4⟩)
          | fail)
        go_loopw [9, 10] (fun q i wx => ∃ j : Nat, j ≤ P.size ∧ i = .int .i64 j ∧ q = .string ⟨(escP (P.data.toList.take j)).toArray⟩ ∧ wx = w4) (fun _ i _ => P.size - (intOf i).toNat)
        case atStart => exact ⟨0, Nat.zero_le _, rfl, rfl, rfl⟩
        case round =>
          obtain ⟨j, hj, rfl, rfl, rfl⟩ := hrel
          obtain ⟨Q, hQ⟩ : ∃ Q, Q = (⟨(escP (P.data.toList.take j)).toArray⟩ : ByteArray) := ⟨_, rfl⟩
          rw [← hQ]
          have HQ : Hid (Q = (⟨(escP (P.data.toList.take j)).toArray⟩ : ByteArray)) := hQ
          have hQz : Q.size = (escP (P.data.toList.take j)).length := by rw [hQ]; simp [ByteArray.size]
          have hQ2 := (escP_len (P.data.toList.take j)).1
          have hQ3 : (P.data.toList.take j).length ≤ P.size := by rw [List.length_take, Lib.size_eq]; omega
          have hQ4 : Q.size ≤ 6291456 := by omega
          clear hQ hQ2 hQ3
          by_cases hjm : j < P.size
          · have q2 : (j : Int) < (P.size : Int) := by omega
            have hg := Jv.get_eq P j hjm
            obtain ⟨hs1, hs2⟩ := Jv.esc_step P j hjm
            have HS1 : Hid _ := hs1
            have HS2 : Hid _ := hs2
            clear hs1 hs2 hQz
            by_cases h46 : P.get! j = 46
            · have b46 : ((P.get! j).toNat : Int) = 46 := by rw [h46]; rfl
              have Hc : Hid (P.get! j = 46) := h46
              clear h46
              go_wp2
              go_roundw
              case rel => exact ⟨j + 1, by omega, by go_num, congrArg Value.string (by rw [HQ.out]; exact HS1.out (.inl Hc.out)), by trivial⟩
              case measure => simp [intOf]; omega
            · by_cases h92 : P.get! j = 92
              · have b46 : ¬ ((P.get! j).toNat : Int) = 46 := by rw [h92]; decide
                have b92 : ((P.get! j).toNat : Int) = 92 := by rw [h92]; rfl
                have Hc : Hid (P.get! j = 92) := h92
                clear h46 h92
                go_wp2
                go_roundw
                case rel => exact ⟨j + 1, by omega, by go_num, congrArg Value.string (by rw [HQ.out]; exact HS1.out (.inr Hc.out)), by trivial⟩
                case measure => simp [intOf]; omega
              · have b46 : ¬ ((P.get! j).toNat : Int) = 46 := fun e => h46 (UInt8.toNat_inj.1 (by have : (P.get! j).toNat = 46 := by omega
                                                                                                  rw [this]; rfl))
                have b92 : ¬ ((P.get! j).toNat : Int) = 92 := fun e => h92 (UInt8.toNat_inj.1 (by have : (P.get! j).toNat = 92 := by omega
                                                                                                  rw [this]; rfl))
                have Hc : Hid (¬ (P.get! j = 46 ∨ P.get! j = 92)) := fun e => e.elim h46 h92
                have c46 : (((P.get! j).toNat : Int) == 46) = false := by simpa using b46
                have c92 : (((P.get! j).toNat : Int) == 92) = false := by simpa using b92
                have d46 : decide (((P.get! j).toNat : Int) = 46) = false := by simpa using b46
                have d92 : decide (((P.get! j).toNat : Int) = 92) = false := by simpa using b92
                clear b46 b92
                clear h46 h92
                go_wp2
                go_roundw
                case rel => exact ⟨j + 1, by omega, by go_num, congrArg Value.string (by rw [HQ.out]; exact HS2.out Hc.out), by trivial⟩
                case measure => simp [intOf]; omega
          · have q2 : ¬ (j : Int) < (P.size : Int) := by omega
            have hjP : P.data.toList.take j = P.data.toList := List.take_of_length_le (by rw [← Lib.size_eq]; omega)
            have HQ2 : Hid (Q = (⟨(escP P.data.toList).toArray⟩ : ByteArray)) := (by show Q = _; rw [← hjP]; exact HQ.out)
            rw [hjP] at hQz
            clear hjP HQ
            by_cases hbig : 200 < S.size + Q.size + 1
            · have q3 : (200 : Int) < (S.size : Int) + (Q.size : Int) + 1 := by omega
              go_wp2
              go_meet
              case rel => exact ⟨ps, by rw [HS.out], HPT.out.below hb4⟩
            · have q3 : ¬ (200 : Int) < (S.size : Int) + (Q.size : Int) + 1 := by omega
              have hrow4 := Jv.rowBel HPT.out.row hb4
              have hz4 := hb4.size
              by_cases hps : ps = []
              · subst hps
                have HJ : Hid (S ++ Q = (⟨(joinP [P]).toArray⟩ : ByteArray)) := (by show _ = _; rw [HS.out, HQ2.out, joinP_one]; exact Jv.ba_app _ _)
                have Hz : Hid ((joinP [P]).length ≤ 200) := (by show _ ≤ _; rw [joinP_one]; omega)
                go_wp2_with (first
                  | (at_builtin; refine Tryz.app_txt rfl _ _ rfl w3.heap.size _ 0 (Jv.txts []) rfl _ hrow4 (Nat.le_trans hwz hz4) P rfl (by omega) ?_; intro v5 w5 hown5 hg5)
                  | fail)
                go_roundw
                case rel => exact ⟨[P], by go_num, by simp; omega, congrArg Value.string HJ.out, HPT.out.next hb4 HPV.out Hz.out (by simp) hg5 hown5⟩
                case measure => simp [intOf]
              · have hp0 : 0 < ps.length := List.length_pos_iff.2 hps
                have q4 : (0 : Int) < (ps.length : Int) := by omega
                have HJ : Hid (S ++ ⟨#[46]⟩ ++ Q = (⟨(joinP (ps ++ [P])).toArray⟩ : ByteArray)) := (by show _ = _; rw [HS.out, HQ2.out, joinP_more hps, show (⟨#[46]⟩ : ByteArray) = ⟨[46].toArray⟩ from rfl, Jv.ba_app, Jv.ba_app, List.append_assoc]; rfl)
                have Hz : Hid ((joinP (ps ++ [P])).length ≤ 200) := (by show _ ≤ _; rw [joinP_more hps, List.length_append, List.length_cons]; omega)
                clear hps
                go_wp2_with (first
                  | (at_builtin; refine Tryz.app_txt rfl _ _ rfl w3.heap.size _ ps.length (Jv.txts ps) rfl _ hrow4 (Nat.le_trans hwz hz4) P rfl (by omega) ?_; intro v5 w5 hown5 hg5)
                  | fail)
                go_roundw
                case rel => exact ⟨ps ++ [P], by simp, by simp; omega, congrArg Value.string HJ.out, HPT.out.next hb4 HPV.out Hz.out hk.2 hg5 hown5⟩
                case measure => simp [intOf]; omega
      · by_cases hk2 : ps.length < L.length
        · have q0 : (ps.length : Int) < (L.length : Int) := by omega
          have q1 : ¬ (ps.length : Int) < 9 := by omega
          go_wp2
          go_meet
          case rel => exact ⟨ps, rfl, hpt⟩
        · have q0 : ¬ (ps.length : Int) < (L.length : Int) := by omega
          go_wp2
          go_meet
          case rel => exact ⟨ps, rfl, hpt⟩
  case rest =>
    obtain ⟨ps, rfl, hpt⟩ := hcut
    clear HST HX hml
    obtain ⟨S, hS⟩ : ∃ S, S = (⟨(joinP ps).toArray⟩ : ByteArray) := ⟨_, rfl⟩
    rw [← hS]
    have HS : Hid (S = (⟨(joinP ps).toArray⟩ : ByteArray)) := hS
    clear hS
    obtain ⟨la, lc, rfl⟩ := hpt.form
    have HPT : Hid (Tryz.Pt w3 wc ps (.slice la ps.length lc)) := hpt
    have hrow := hpt.row
    have hwz := hpt.bel.size
    clear hpt
    go_upto_if 81 with fail
    go_cut [5] from 79 to 84 (fun lv wx => ∃ ps', ps' ≠ [] ∧ joinP ps' = joinP ps ∧ Tryz.Pt w3 wx ps' lv)
    case first =>
      by_cases hps : ps = []
      · subst hps
        go_wp2_with (first
          | (at_builtin; refine Tryz.app_txt rfl _ _ rfl w3.heap.size _ 0 (Jv.txts []) rfl _ hrow hwz ⟨#[]⟩ rfl (by omega) ?_; intro v5 w5 hown5 hg5)
          | fail)
        go_meet
        case rel => exact ⟨[⟨#[]⟩], by simp, rfl, HPT.out.next (Below.refl _ _) rfl (by show (joinP [⟨#[]⟩]).length ≤ 200; rw [joinP_one]; simp [escP]) (by simp) hg5 hown5⟩
      · have hp0 : 0 < ps.length := List.length_pos_iff.2 hps
        have q4 : ¬ (ps.length : Int) = 0 := by omega
        have HPS : Hid (ps ≠ []) := hps
        clear hps
        go_wp2
        go_meet
        case rel => exact ⟨ps, HPS.out, rfl, HPT.out⟩
    case rest =>
      obtain ⟨ps', hne, hjo, hpt2⟩ := hcut
      have hS2 : S = (⟨(joinP ps').toArray⟩ : ByteArray) := by rw [hjo]; exact HS.out
      clear HPT hrow hwz hjo HS
      have hp0 : 0 < ps'.length := List.length_pos_iff.2 hne
      obtain ⟨gl, lc, rfl, -, hglt⟩ := hpt2.row.form hp0
      have hp9 := hpt2.len
      have hcl : ∀ W, Below wc.heap.size wc W → ∀ (j : Nat) (X : ByteArray), ps'[j]? = some X → W.cell? ⟨gl, j, none⟩ = some (.string X) := fun W hW j X hj => by
        have := hpt2.row.cells (g := gl) rfl j (.string X) (by simp [Jv.txts, hj])
        rw [Addr.add_mid, Nat.zero_add] at this
        exact (hW.cell (p := ⟨gl, j, none⟩) hglt).trans this
      have ht0 : Tryz.Tr wc (fun _ => True) (nest (ps'.drop ps'.length)) w1.heap.size := by
        rw [List.drop_length]
        exact Tryz.Tr_keep (fun g _ hl => hpt2.bel.block g hl) hpt2.bel.size _ _ H7.out
      have HBC : Hid (Below w.heap.size w wc) := HB3.out.trans (hpt2.bel.mono HB3.out.size)
      have HV : Hid (∀ y ∈ ps', Lib.validD y.data.toList = true ∧ y.size ≤ 200) := fun y hy => ⟨hpt2.val y hy, join_mem hy hpt2.siz⟩
      have hpath := path_join hne hpt2.val hpt2.siz
      rw [← hS2] at hpath
      have hSz : S.size ≤ 200 := by rw [hS2]; have := hpt2.siz; simpa [ByteArray.size] using this
      have HCL : Hid _ := hcl
      have HT0 : Hid (Tryz.Tr wc (fun _ => True) (nest (ps'.drop ps'.length)) w1.heap.size) := ht0
      have HPA : Hid (path S = .ok ps') := hpath
      clear hcl ht0 hpath hpt2 hS2 H7 HB3 hne
      have hmm := @run_makeMap Tryz.prog
      go_wp2
      go_loopw [6, 11] (fun p i wr => ∃ k x : Nat, k ≤ ps'.length ∧ i = .int .i64 ((k : Int) - 1) ∧ p = .pointer (some ⟨x, 0, none⟩) ∧ Tryz.Tr wr (fun _ => True) (nest (ps'.drop k)) x ∧ Below wc.heap.size wc wr) (fun _ i _ => (intOf i + 1).toNat)
      case atStart => exact ⟨ps'.length, _, Nat.le_refl _, rfl, rfl, HT0.out, Below.refl _ _⟩
      case round =>
        obtain ⟨k, x, hk, rfl, rfl, htr, hbr⟩ := hrel
        cases k with
        | succ m =>
          have q0 : (0 : Int) ≤ ((m + 1 : Nat) : Int) - 1 := by omega
          have q1 : ((m + 1 : Nat) : Int) - 1 = (m : Int) := by omega
          have hm : m < ps'.length := by omega
          have hc0 := HCL.out wr hbr m _ (List.getElem?_eq_getElem hm)
          have hdr : ps'.drop m = ps'[m] :: ps'.drop (m + 1) := List.drop_eq_getElem_cons hm
          obtain ⟨hkv, hks⟩ := HV.out _ (List.getElem_mem hm)
          generalize ps'[m] = X at *
          obtain ⟨W2, W4, hr2, hr4, hc2, hof⟩ := Tryz.nest_map hkv hks htr true
          obtain ⟨V2, V4, hs2, hs4, hd2, hog⟩ := Tryz.nest_map hkv hks htr false
          simp only [if_true] at hr2 hr4
          simp only [Bool.false_eq_true, if_false] at hs2 hs4
          have hgr : gl < wr.heap.size := Nat.lt_of_lt_of_le hglt hbr.size
          have hcD : wr.drew.cell? ⟨gl, m, none⟩ = some (.string X) := hc0
          have hcA : (wr.alloc (.map #[] 0)).drew.cell? ⟨gl, m, none⟩ = some (.string X) := (((Below.refl wr.drew.heap.size wr.drew).alloc (Nat.le_refl _) (.map #[] 0)).cell (p := ⟨gl, m, none⟩) hgr).trans hc0
          have hcB : W2.cell? ⟨gl, m, none⟩ = some (.string X) := (hc2 ⟨gl, m, none⟩ hgr).trans hc0
          have hcC : V2.cell? ⟨gl, m, none⟩ = some (.string X) := (hd2 ⟨gl, m, none⟩ hgr).trans hc0
          clear hc2 hd2
          go_upto_region 28 with fail
          go_region_with (first
            | (go_at_call 21; refine hof.mono ?_; rintro e5 w5 ⟨y5, rfl, ht5, hb5⟩)
            | (go_at_call 21; refine hog.mono ?_; rintro e5 w5 ⟨y5, rfl, ht5, hb5⟩)
            | fail)
          all_goals
            clear hof hog hr2 hr4 hs2 hs4 hcD hcA hcB hcC
            go_wp2
            go_roundw
            case rel => exact ⟨m, y5, by omega, rfl, rfl, by rw [hdr]; exact ht5, hbr.trans (hb5.mono hbr.size)⟩
            case measure => simp [intOf]
        | zero =>
          have q0 : ¬ (0 : Int) ≤ ((0 : Nat) : Int) - 1 := by omega
          rw [List.drop_zero] at htr
          have hT := HT.out.below (HBC.out.trans (hbr.mono HBC.out.size)) HT.out.size
          have hpa := Tryz.path_any S (by omega) wr hT
          have HTR : Hid (Tryz.Tr wr (fun _ => True) (nest ps') x) := htr
          have HBR : Hid (Below wc.heap.size wc wr) := hbr
          clear htr hbr hT
          go_wp2_with (first
            | (go_at_call 20; refine hpa.mono ?_; clear hpa; rintro e5 w5 h5
               obtain ⟨gv, cv, rfl, hgv, hcv, hb5⟩ : ∃ g c, e5 = .returned (.tuple #[.slice (some ⟨g, 0, none⟩) ps'.length c, .nilIface]) ∧ g < w5.heap.size ∧ (∀ (j : Nat) (X : ByteArray), ps'[j]? = some X → w5.cell? ⟨g, j, none⟩ = some (.string X)) ∧ Below wr.heap.size wr w5 := by
                 rcases h5 with ⟨l, v, h1, rfl, h3, h4⟩ | ⟨p, e, y, h1, -⟩
                 · rw [HPA.out] at h1
                   injection h1 with h1
                   subst h1
                   obtain ⟨g, c, rfl, -, hlt⟩ := h3.form hp0
                   refine ⟨g, c, rfl, hlt, fun j X hj => ?_, h4⟩
                   have := h3.cells (g := g) rfl j (.string X) (by simp [Jv.txts, hj])
                   rwa [Addr.add_mid, Nat.zero_add] at this
                 · rw [HPA.out] at h1; cases h1
               clear h5
               have HCV : Hid (∀ (j : Nat) (X : ByteArray), ps'[j]? = some X → w5.cell? ⟨gv, j, none⟩ = some (.string X)) := hcv
               clear hcv)
            | fail)
          have hcl5 : ∀ (j : Nat) (X : ByteArray), ps'[j]? = some X → w5.cell? ⟨gl, j, none⟩ = some (.string X) := HCL.out w5 (HBR.out.trans (hb5.mono HBR.out.size))
          have HC5 : Hid (∀ (j : Nat) (X : ByteArray), ps'[j]? = some X → w5.cell? ⟨gl, j, none⟩ = some (.string X)) := hcl5
          have HB5 : Hid (Below wr.heap.size wr w5) := hb5
          clear hcl5 hb5 HCL HV
          go_loopw [14] (fun i wx => ∃ j q : Nat, j ≤ ps'.length ∧ i = .int .i64 j ∧ wx = w5.drewN q) (fun i _ => ps'.length - (intOf i).toNat)
          case atStart => exact ⟨0, 0, Nat.zero_le _, rfl, rfl⟩
          case round =>
            obtain ⟨j, q, hj, rfl, rfl⟩ := hrel
            by_cases hjm : j < ps'.length
            · have q1 : (j : Int) < (ps'.length : Int) := by omega
              have c1 : w5.cell? ⟨gv, j, none⟩ = some (.string ps'[j]) := HCV.out j _ (List.getElem?_eq_getElem hjm)
              have c2 : w5.cell? ⟨gl, j, none⟩ = some (.string ps'[j]) := HC5.out j _ (List.getElem?_eq_getElem hjm)
              generalize ps'[j] = X at *
              go_wp2
              go_quiet (fail)
              go_wp2
              go_roundw
              case rel => exact ⟨j + 1, _, by omega, by go_num, rfl⟩
              case measure => simp [intOf]; omega
            · have q1 : ¬ (j : Int) < (ps'.length : Int) := by omega
              have hlk := Tryz.look_any Nst (fun ks vs h => h.obj) (Tryz.Tr_keep (w := wr) (w' := w5.drewN q) (fun g _ hl => HB5.out.block g hl) HB5.out.size _ _ HTR.out) (.inl ⟨ps', rfl⟩) ps' gv cv (by omega) (fun i s hs => HCV.out i s hs)
              rw [look_nest] at hlk
              have hl1 : Calls Tryz.prog 28 #[.pointer (some ⟨x, 0, none⟩), .slice (some ⟨gv, 0, none⟩) ps'.length cv] (w5.drewN q) fun e w' => ∃ y8, e = .returned (.pointer (some ⟨y8, 0, none⟩)) ∧ Jv.Vb w' y8 2 false 7 emp Jv.nilS Jv.nilS ∧ ∃ q', w' = w5.drewN q' := hlk.mono fun e w' ⟨⟨q', h1⟩, h2⟩ => by
                rcases h2 with h2 | ⟨u, y8, h2, h3, h4, -⟩
                · cases h2.1
                · injection h2 with h2
                  subst h2
                  subst h1
                  unfold Tryz.Tr at h4
                  exact ⟨y8, h3, h4.2.keep rfl (Nat.le_refl _), q + q', by simp [World.drewN, Nat.add_assoc]⟩
              clear hlk
              go_wp2_with (first
                | (go_at_call 28; refine hl1.mono ?_; clear hl1; rintro e8 w8 ⟨y8, rfl, hvb8, q8, rfl⟩; have hn8 := Tryz.num_of hvb8; clear hvb8)
                | (go_at_call 27; refine hn8.mono ?_; clear hn8; rintro ec wx ⟨rfl, rfl⟩)
                | fail)
              go_ret
              exact ⟨rfl, below_drewN ((HBC.out.trans (HBR.out.mono HBC.out.size)).trans (HB5.out.mono (HBC.out.trans (HBR.out.mono HBC.out.size)).size)) _⟩
end Go.Proofs
