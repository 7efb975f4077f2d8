/-
  OfMap: the walk.
-/
import Derived.Test.YtoibnhknkhefjaaGreatDoorOc
import Derived.Deep.DeepCutAuto
namespace Go.Proofs
open Go.RowKit Go.Jv Go.Sort Go.Maps
set_option maxHeartbeats 2000000 in
set_option maxRecDepth 20000 in
theorem Tryz.ofMap_any {w : World} {b n : Nat} {D : DataW Unit} (hown : w.ownsMap Tryz.prog 9 Jv.ptrR b n D) (ks : List ByteArray) (hks : ∀ k, Maps.has D k = true → ∃ s ∈ ks, k = Jv.kl s) (hks2 : ∀ s ∈ ks, Maps.has D (Jv.kl s) = true) (hkl : ks.length ≤ 1000000) (h0 : 0 < ks.length) (hso : ks.Pairwise fun a b => Lib.compareBytes a.data.toList b.data.toList < 0)
    (hsm : ∀ s ∈ ks, s.size ≤ maxLen) (hri : ∀ s ∈ ks, ∀ W, Calls Tryz.prog 30 #[.string s] W fun e w' => e = .returned (.string s) ∧ Below W.heap.size W w') :
    Calls Tryz.prog 21 #[.map (some b)] w fun e w' => ∃ xv gM capM kv iv xs, e = .returned (.pointer (some ⟨xv, 0, none⟩)) ∧ xs.length = ks.length ∧ Tryz.Om w b n D ks gM capM xv w' ks.length ks.length kv iv xs := by
  obtain ⟨im, him, hz0, hz1, hz2⟩ := info_parts Tryz.info_mem
  obtain ⟨jm, hjm, hy0, hy1, hy2⟩ := info_parts Tryz.info_strO
  obtain ⟨pm, hpm, hp0, hp1, hp2⟩ := info_parts Tryz.info_ptrO
  have hbl := hown.lt
  have HSM : Hid (∀ s ∈ ks, s.size ≤ maxLen) := hsm
  clear hsm
  go_enter Tryz.func21, Tryz.ntmps21
  go_wp2_with (first
    | (at_range; refine wpList_range_own _ rfl _ 53 rfl 9 29 Tryz.strK Tryz.underlying53 _ b n D rfl hown ?_; intro w0 hrg0 hg0 hs0)
    | fail)
  go_frame
  have HRG0 : Hid _ := hrg0
  have HG0 : Hid _ := hg0
  clear hrg0 hg0
  go_loopw [3] (fun mv wr => ∃ left cnt l, wr.ranges Tryz.prog 9 Jv.ptrR b w.heap.size n D left cnt ∧ wr.ownsRow (w.heap.size + 1) 85 2 mv l.length (Jv.mems (Jv.dups l)) ∧ Jv.Came ks D left l ∧ Below w.heap.size w wr ∧ w.heap.size + 1 ≤ wr.heap.size) (fun _ wr => wr.rangeLeft b w.heap.size)
  case atStart => exact ⟨_, _, [], HRG0.out, World.ownsRow_nil _ _ _ _, ⟨by simp, by simp, fun s e => .inl (hks2 s e), fun k e => e⟩, (Below.refl w.heap.size w).grown HG0.out (Nat.le_refl _) (fun k hk => by cases hk), by omega⟩
  case round =>
    obtain ⟨left, cnt, l, hrg, hrow, hca, hbel, hsz⟩ := hrel
    have HROW : Hid _ := hrow
    have HCA : Hid _ := hca
    have hln := hca.len
    clear hrow hca
    go_wp2_with (first
      | (at_next; refine wpList_next_ranges _ rfl _ rfl 9 Tryz.strK Jv.ptrR (fun s : ByteArray => .string s) Jv.ptrV (fun key k h => Maps.keyOf_string_inv Tryz.underlying9 h) (fun v y h => (Jv.ptrR_inv h).imp fun _ e => e.1) b w.heap.size n D left cnt rfl hrg ?_ ?_)
      | fail)
    · intro hc0 hl0
      have hnd : ks.Nodup := hso.imp fun h e => by rw [e, Jv.cb_self] at h; omega
      have hperm : l.Perm ks := (List.perm_ext_iff_of_nodup HCA.out.nd hnd).2 fun s => ⟨fun e => (HCA.out.sub s e).1, fun e => by
        rcases HCA.out.all s e with e1 | e1
        · rw [hl0] at e1; cases e1
        · exact e1⟩
      have hll := hperm.length_eq
      have hdl : (Jv.dups l).length = l.length := by simp [Jv.dups]
      obtain ⟨gM, capM, rfl⟩ : ∃ gM capM, u3 = .slice (some ⟨gM, 0, none⟩) l.length capM := by
        rcases HROW.out.2 with ⟨_, e⟩ | ⟨g, cap, cur, e, _⟩
        · omega
        · exact ⟨g, cap, e⟩
      have hsr := Tryz.sortM_row (l := Jv.dups l) (by rw [hdl]; exact HROW.out) (by rw [hdl]; omega) (by rw [hdl]; omega)
      rw [hdl, hll] at hsr
      rw [hll]
      have hgMl := Jv.row_lo HROW.out gM rfl
      clear hdl
      have HRG : Hid _ := hrg
      have HPE : Hid _ := hperm
      have HSO : Hid _ := hso
      have HBEL : Hid _ := hbel
      clear hrg hperm hso hbel hks hks2 hri hown HRG0 HG0 hl0
      go_wp2_with (first
        | (go_at_call 38; refine hsr.mono ?_; clear hsr; rintro e w4 ⟨rfl, l4, hp4, hw4, hrow4, hg4⟩; have hl4 := Jv.sorted_eq HPE.out HSO.out hp4 hw4; subst hl4; have HG4 : Hid _ := hg4; have HROW4 : Hid _ := hrow4; clear hg4 hrow4 hp4 hw4)
        | fail)
      have hg4s := HG4.out.size
      have hrgo : wr.ranges Tryz.prog 9 Jv.ptrR b w.heap.size n D left cnt := HRG.out
      have hrw4 : w4.ownsRow (w.heap.size + 1) 85 2 (.slice (some ⟨gM, 0, none⟩) ks.length capM) ks.length (Jv.mems (Jv.dups ks)) := HROW4.out
      have hgg4 : wr.grownBy w4 (some gM) := HG4.out
      have hbw : Below w.heap.size w wr := HBEL.out
      have hom0 : Tryz.Om w b n D ks gM capM w4.heap.size (w4.alloc (.cells (Jv.objC (.slice none 0 0) (.slice none 0 0)) 67)) 0 0 (.slice none 0 0) (.slice none 0 0) [] := by
        refine ⟨(hrgo.owns.kept hgg4 (fun e => ?_)).alloc _, hrw4.alloc _, heap_alloc_new w4 _, World.ownsRow_nil _ _ _ _, World.ownsRow_nil _ _ _ _, fun i s y _ h => by simp at h, (hbw.grown hgg4 (by omega) (fun k hk => ?_)).alloc (by omega) _, hbl, by omega, by omega⟩
        · injection e with e; omega
        · injection hk with hk; omega
      clear hrgo hrw4 hgg4 hbw
      have HOM0 : Hid (Tryz.Om w b n D ks gM capM w4.heap.size (w4.alloc (.cells (Jv.objC (.slice none 0 0) (.slice none 0 0)) 67)) 0 0 (.slice none 0 0) (.slice none 0 0) []) := hom0
      clear hom0 HRG HROW4 HG4 HBEL HCA HROW HPE
      generalize hxv : w4.heap.size = xv at *
      go_loopw [27] (fun i wr => ∃ (k : Nat) (kv iv : Value) (xs : List Nat), i = .int .i64 k ∧ k ≤ ks.length ∧ xs.length = k ∧ Tryz.Om w b n D ks gM capM xv wr k k kv iv xs) (fun i _ => ks.length - (intOf i).toNat)
      case atStart => exact ⟨0, _, _, [], rfl, by omega, rfl, HOM0.out⟩
      case round =>
        obtain ⟨k, kv, iv, xs, rfl, hk, hxs, hom⟩ := hrel
        clear HOM0
        by_cases hkl2 : k < ks.length
        · have q0 : (k : Int) < (ks.length : Int) := by omega
          obtain ⟨s, hs⟩ : ∃ s, ks[k]? = some s := ⟨_, List.getElem?_eq_getElem hkl2⟩
          obtain ⟨m0, m1⟩ := hom.mem hs
          have HOM : Hid _ := hom
          clear hom
          go_wp2
          have hom1 := HOM.out.below ((Below.refl wr.heap.size wr).alloc (Nat.le_refl _) (.cells #[.string s, .string s] 85))
          have o0 : (wr.alloc (.cells #[.string s, .string s] 85)).cell? ⟨wr.heap.size, 0, none⟩ = some (.string s) := by simp [go_sem]
          have o1 : (wr.alloc (.cells #[.string s, .string s] 85)).cell? ⟨wr.heap.size, 1, none⟩ = some (.string s) := by simp [go_sem]
          have hx1 : xv < wr.heap.size := HOM.out.lt
          have hbox := heap_alloc_new wr (.cells #[.string s, .string s] 85)
          generalize hoB : wr.heap.size = oB at *
          generalize hW1 : wr.alloc (.cells #[.string s, .string s] 85) = W1 at *
          have HBOX : Hid (W1.heap[oB]? = some (.cells #[.string s, .string s] 85 (0, 0))) := hbox
          clear hW1 HOM m0 m1 hbox
          have HOM1 : Hid (Tryz.Om w b n D ks gM capM xv W1 k k kv iv xs) := hom1
          have hcond : ((k : Int) + 1 < (ks.length : Int) ∧ ∃ s', W1.cell? ⟨gM, (k + 1) * 2, none⟩ = some (.string s') ∧ (s'.toList == s.toList) = false) ∨ ¬ ((k : Int) + 1 < (ks.length : Int)) := by
            by_cases hk1 : k + 1 < ks.length
            · obtain ⟨s', hs'⟩ : ∃ s', ks[k + 1]? = some s' := ⟨_, List.getElem?_eq_getElem hk1⟩
              refine .inl ⟨by omega, s', (hom1.mem hs').1, ?_⟩
              rw [ByteArray.toList_eq, ByteArray.toList_eq]
              refine beq_false_of_ne fun e => ?_
              have h1 := List.pairwise_iff_getElem.1 HSO.out k (k + 1) hkl2 hk1 (by omega)
              rw [(List.getElem?_eq_some_iff.1 hs).2, (List.getElem?_eq_some_iff.1 hs').2, e, Jv.cb_self] at h1
              omega
            · exact .inr (by omega)
          clear hom1
          go_cut [47] (fun t wx => t = .bool false ∧ Tryz.Om w b n D ks gM capM xv wx k k kv iv xs ∧ wx.heap[oB]? = some (.cells #[.string s, .string s] 85 (0, 0)))
          case first =>
            rcases hcond with ⟨q1, s', m2, hne⟩ | q1
            all_goals
              go_region
            all_goals
              go_wp2
              go_meet
              case rel => exact ⟨rfl, HOM1.out.below (Below.refl _ _).drew, HBOX.out⟩
          case rest =>
            obtain ⟨rfl, hom2, hbox2⟩ := hcut
            clear HBOX o0 o1 HOM1 hcond
            go_upto_region 12 with fail
            go_cut [] (fun wx => ∃ kv', Tryz.Om w b n D ks gM capM xv wx (k + 1) k kv' iv xs ∧ wx.heap[oB]? = some (.cells #[.string s, .string s] 85 (0, 0)))
            case first =>
              have o0 : wc.cell? ⟨oB, 0, none⟩ = some (.string s) := cell_of_row _ _ 0 _ _ _ hbox2
              have c4 : wc.cell? ⟨xv, 4, none⟩ = some kv := cell_of_row _ _ 4 _ _ _ hom2.obj
              have f4 : wc.frozen? ⟨xv, 4, none⟩ = false := frozen_of_row _ _ 4 _ _ hom2.obj
              have hx2 : xv < wc.heap.size := hom2.lt
              have hkx : kv.ownBlock ≠ some xv := fun e => by have := Jv.row_lo hom2.keys xv e; omega
              have HOM2 : Hid (Tryz.Om w b n D ks gM capM xv wc k k kv iv xs) := hom2
              have HBOX2 : Hid (wc.heap[oB]? = some (.cells #[.string s, .string s] 85 (0, 0))) := hbox2
              have HKEYS : Hid (wc.ownsRow (xv + 1) 9 1 kv k ((ks.take k).map Value.string)) := hom2.keys
              clear hom2 hbox2
              go_region_law (first
                | (refine step_append_lies _ (by rfl) _ _ _ (by rfl) (xv + 1) 9 jm _ 1 16 Tryz.underlying23 hjm hy0 hy1 hy2 rfl (by omega) kv k ((ks.take k).map Value.string) (by rfl) (World.ownsRow.alloc HKEYS.out _) ⟨wc.heap.size, 0, none⟩ 1 1 [.string s] (by rfl) (by rfl) (World.news_of_block (cs := #[.string s]) (t := 9) (fr := (0, 0)) (heap_alloc_new wc _)) (by simp [Value.oneCell']) (by omega) (by unfold maxLen; omega) (by omega) (by simp; omega) (wc.heap.size + 1) (by simp) ?_; intro g5 cap5 w5 hown5 hgrow5 hat5 hlt5; have f45 : w5.frozen? ⟨xv, 4, none⟩ = false := (hgrow5.frozen_far _ (by simp; omega) (Ne.symm hkx)).trans ((((Below.refl wc.heap.size wc).alloc (Nat.le_refl _) _).frozen (p := ⟨xv, 4, none⟩) hx2).trans f4); have c45 : w5.cell? ⟨xv, 4, none⟩ = some kv := (hgrow5.cell_far _ (by simp; omega) (Ne.symm hkx)).trans ((((Below.refl wc.heap.size wc).alloc (Nat.le_refl _) _).cell (p := ⟨xv, 4, none⟩) hx2).trans c4))
                | fail)
              all_goals
                go_wp2
                go_meet
                case rel =>
                  refine ⟨_, HOM2.out.key hs ⟨hgrow5.os, hgrow5.tape, hgrow5.output, hgrow5.size, hgrow5.block⟩ hown5, ?_⟩
                  refine (Below.heap_setCell w5 ⟨xv, 4, none⟩ _ oB (by show oB ≠ xv; omega)).trans ((hgrow5.block oB (by simp; have := (Array.getElem?_eq_some_iff.1 HBOX2.out).1; omega) (fun e => Jv.rowTy HKEYS.out HBOX2.out (by decide) e.symm)).trans ?_)
                  exact (Below.heap_alloc wc _ oB (Array.getElem?_eq_some_iff.1 HBOX2.out).1).trans HBOX2.out
            case rest =>
              obtain ⟨kv', hom5, hbox5⟩ := hcut
              go_upto_region 13 with fail
              clear hom2 hbox2
              obtain ⟨o, ho, hlook⟩ := hom5.look s (HSM.out s (List.mem_of_getElem? hs))
              have hl0 := hlook wc rfl
              have hl1 := hlook wc.drew rfl
              have o1 : wc.cell? ⟨oB, 1, none⟩ = some (.string s) := cell_of_row _ _ 1 _ _ _ hbox5
              have c5 : wc.cell? ⟨xv, 5, none⟩ = some iv := cell_of_row _ _ 5 _ _ _ hom5.obj
              have f5 : wc.frozen? ⟨xv, 5, none⟩ = false := frozen_of_row _ _ 5 _ _ hom5.obj
              have hx5 : xv < wc.heap.size := hom5.lt
              have hix : iv.ownBlock ≠ some xv := fun e => by have := Jv.row_lo hom5.items xv e; omega
              have hpr : ∀ W : World, W.heap = wc.heap → W.os = wc.os → W.tape = wc.tape → W.output = wc.output → Calls Tryz.prog 42 #[Jv.ptrV o] W fun e w' => ∃ y, e = .returned (.pointer (some ⟨y, 0, none⟩)) ∧ Below wc.heap.size wc w' ∧ (o = some y ∨ (o = none ∧ wc.heap.size ≤ y ∧ w'.heap[y]? = some (.cells Jv.nullC 67 (0, 0)))) := fun W e1 e2 e3 e4 =>
                (Tryz.present_any o W).mono fun _ _ ⟨y, q1, q2, q3⟩ => ⟨y, q1, ⟨q2.os.trans e2, q2.tape.trans e3, q2.output.trans e4, by rw [← e1]; exact q2.size, fun i hi => (q2.block i (by rw [e1]; exact hi)).trans (by rw [e1])⟩, by rw [← e1]; exact q3⟩
              have HITEMS : Hid (wc.ownsRow (xv + 1) 29 1 iv k (xs.map fun x => .pointer (some ⟨x, 0, none⟩))) := hom5.items
              have HOM5 : Hid (Tryz.Om w b n D ks gM capM xv wc (k + 1) k kv' iv xs) := hom5
              have HO : Hid (Jv.ptrD o = D.atKey (Jv.kl s) .nil) := ho
              clear hom5 hbox5 hlook ho
              generalize hpv : Jv.ptrV o = pv at *
              go_region_law (first
                | (go_simp; refine (hpr _ (by rfl) (by rfl) (by rfl) (by rfl)).mono ?_; rintro e6 w6 ⟨y, rfl, hb6, hy6⟩; have c56 : w6.cell? ⟨xv, 5, none⟩ = some iv := (hb6.cell (p := ⟨xv, 5, none⟩) hx5).trans c5; have hx6 : xv < w6.heap.size := Nat.lt_of_lt_of_le hx5 hb6.size)
                | (refine step_append_lies _ (by rfl) _ _ _ (by rfl) (xv + 1) 29 pm _ 1 8 Tryz.underlying65 hpm hp0 hp1 hp2 rfl (by omega) iv k (xs.map fun x => .pointer (some ⟨x, 0, none⟩)) (by rfl) (World.ownsRow.alloc (Jv.rowBel HITEMS.out hb6) _) ⟨w6.heap.size, 0, none⟩ 1 1 [.pointer (some ⟨y, 0, none⟩)] (by rfl) (by rfl) (World.news_of_block (cs := #[.pointer (some ⟨y, 0, none⟩)]) (t := 29) (fr := (0, 0)) (heap_alloc_new w6 _)) (by simp [Value.oneCell']) (by omega) (by unfold maxLen; omega) (by omega) (by simp; omega) (w6.heap.size + 1) (by simp) ?_; intro g7 cap7 w7 hown7 hgrow7 hat7 hlt7; have f57 : w7.frozen? ⟨xv, 5, none⟩ = false := (hgrow7.frozen_far _ (by simp; omega) (Ne.symm hix)).trans ((((Below.refl w6.heap.size w6).alloc (Nat.le_refl _) _).frozen (p := ⟨xv, 5, none⟩) hx6).trans ((hb6.frozen (p := ⟨xv, 5, none⟩) hx5).trans f5)); have c57 : w7.cell? ⟨xv, 5, none⟩ = some iv := (hgrow7.cell_far _ (by simp; omega) (Ne.symm hix)).trans ((((Below.refl w6.heap.size w6).alloc (Nat.le_refl _) _).cell (p := ⟨xv, 5, none⟩) hx6).trans c56))
                | fail)
              all_goals
                go_wp2
                have hit : Tryz.Item D xv w6 s y := by
                  rcases hy6 with e1 | ⟨e1, e2, e3⟩
                  · subst e1; exact .inl HO.out.symm
                  · subst e1; exact .inr ⟨HO.out.symm, by omega, e3⟩
                refine ⟨⟨k + 1, _, _, xs ++ [y], by go_num, by omega, by simp; omega, (HOM5.out.below hb6).item hs hxs hit ⟨hgrow7.os, hgrow7.tape, hgrow7.output, hgrow7.size, hgrow7.block⟩ hown7⟩, ?_⟩
                simp [intOf]; omega
        · have q0 : ¬ (k : Int) < (ks.length : Int) := by omega
          obtain rfl : k = ks.length := by omega
          have HOM : Hid _ := hom
          clear hom
          go_wp2
          go_ret
          exact ⟨xv, rfl, gM, capM, kv, iv, xs, hxs, HOM.out⟩
    · intro x c k y1 y2 w1 cnt1 hkx hlx hRc hat hrg1 hlt hg1 hs1 hen
      obtain ⟨rfl, hxm⟩ := Tryz.key_kl hkx
      obtain ⟨x', hxk, hxe⟩ := hks _ (HCA.out.has _ hlx)
      obtain rfl : x = x' := by
        have := Jv.kl_same x x'
        rw [hxe, Jv.kl_same] at this
        simpa using this.symm
      have hbel1 : Below w.heap.size w w1 := hbel.grown hg1 (by omega) (fun k hk => by cases hk; exact Nat.le_refl _)
      have hrow1 : w1.ownsRow (w.heap.size + 1) 85 2 u3 l.length (Jv.mems (Jv.dups l)) := Jv.row_grown HROW.out hg1 (fun k hk => by have := (Jv.row_lo HROW.out k hk); omega)
      have hri1 := hri x hxk
      have HRG1 : Hid (w1.ranges Tryz.prog 9 Jv.ptrR b w.heap.size n D (fun z => left z && !z.sameKey (Jv.kl x)) cnt1) := hrg1
      have HROW1 : Hid (w1.ownsRow (w.heap.size + 1) 85 2 u3 l.length (Jv.mems (Jv.dups l))) := hrow1
      have HBEL1 : Hid _ := hbel1
      have HLX : Hid _ := hlx
      have HXK : Hid _ := hxk
      have HLT : Hid _ := hlt
      have HRG : Hid (wr.ranges Tryz.prog 9 Jv.ptrR b w.heap.size n D left cnt) := hrg
      clear hrg1 hrow1 hbel1 hlx hxk hlt hrg hri hks hks2 hkx hat hRc hxe HRG0 HG0 hown hbel HROW
      go_wp2_with (first
        | (go_at_call 30; refine (hri1 _).mono ?_; clear hri1; rintro e w2 ⟨rfl, hb2⟩; have hrow2 := Jv.rowBel HROW1.out hb2; have hz2' := hb2.size; have HB2 : Hid _ := hb2; clear hb2)
        | (at_builtin; refine wpList_append_lies _ rfl _ _ 83 rfl (w.heap.size + 1) 85 im _ 2 32 Tryz.underlying83 him hz0 hz1 hz2 rfl (by omega) u3 l.length (Jv.mems (Jv.dups l)) (by rfl) (hrow2.alloc _) ⟨w2.heap.size, 0, none⟩ 1 1 [.string x, .string x] (by rfl) (by rfl) (World.news_of_block (cs := #[.string x, .string x]) (t := 85) (fr := (0, 0)) (heap_alloc_new w2 _)) (by simp [Value.oneCell']) (by omega) (by unfold maxLen; omega) (by omega) (by simp; omega) (w2.heap.size + 1) (by simp) ?_; intro g3 cp3 w3 hown3 hgrow3 hat3 hlt3)
        | fail)
      have hb2g : w1.grownBy w2 none := ⟨HB2.out.os, HB2.out.tape, HB2.out.output, HB2.out.size, fun i hi _ => HB2.out.block i hi⟩
      have hrl := Jv.row_lo hrow2
      have hrg3 := ((World.ranges.kept HRG1.out hb2g (by simp) (by simp)).alloc (.cells #[.string x, .string x] 85)).kept hgrow3 (fun e => by have := hrl b e.symm; omega) (fun e => by have := hrl w.heap.size e.symm; omega)
      refine ⟨⟨_, _, l ++ [x], hrg3, ?_, HCA.out.next HXK.out HLX.out, ?_, ?_⟩, ?_⟩
      · rw [Jv.mems_snoc, List.length_append, List.length_singleton]
        exact hown3
      · refine ((HBEL1.out.trans (HB2.out.mono (by omega))).alloc (by omega) _).grown hgrow3 (by simp; omega) (fun k hk => by have := hrl k hk; omega)
      · have := hgrow3.size; simp at this; omega
      · rw [hrg3.left_eq, World.ranges.left_eq HRG.out]; exact HLT.out
end Go.Proofs
