/-
  WireBack: the walk.
-/
import Derived.Test.YtdefebinnmimgaaVq
namespace Go.Wi
open Go.RowKit Go.Proofs
theorem Full.up {w w' : World} {f : Wi.Th → List Int} {q : List Wi.Th} (h : Full w f q) (g : Below w.heap.size w w') : Full w' f q :=
  ⟨fun p hp => (h.is p hp).up g, h.ss, h.ls, h.ns⟩
theorem tbs_split (f : Wi.Th → List Int) (q : List Wi.Th) (k : Nat) (p : Wi.Th) (hp : q[k]? = some p) : tbs f q = tbs f (q.take k) ++ (tb p (f p) ++ tbs f (q.drop (k + 1))) := by
  have hk := (List.getElem?_eq_some_iff.1 hp).1
  have e : q = q.take k ++ (p :: q.drop (k + 1)) := by
    rw [List.getElem?_eq_getElem hk] at hp
    rw [← Option.some.inj hp, ← List.drop_eq_getElem_cons hk, List.take_append_drop]
  conv => lhs; rw [e]
  simp [tbs]
theorem tbs_fin (w : World) (f : Wi.Th → List Int) (q : List Wi.Th) (hF : Full w f q) (k : Nat) (hk : k ≤ q.length) : (Rs.mk (tbs f q) (tbs f (q.take k)).length none).fin = decide (k = q.length) := by
  have e : tbs f q = tbs f (q.take k) ++ tbs f (q.drop k) := by
    unfold tbs
    rw [← List.flatMap_append, List.take_append_drop]
  have hd := (tbs_len w f (q.drop k) ⟨fun x hx => hF.is x (List.mem_of_mem_drop hx), fun x hx => hF.ss x (List.mem_of_mem_drop hx), fun x hx => hF.ls x (List.mem_of_mem_drop hx), fun x hx => hF.ns x (List.mem_of_mem_drop hx)⟩).1
  rw [List.length_drop] at hd
  have hl : (tbs f q).length = (tbs f (q.take k)).length + (tbs f (q.drop k)).length := by rw [e, List.length_append]
  unfold Rs.fin
  by_cases hk2 : k = q.length
  · have : (tbs f (q.drop k)).length = 0 := by rw [hk2, List.drop_length]; simp [tbs]
    rw [decide_eq_true hk2]
    simp only [Option.isNone_none, Bool.true_and, beq_iff_eq]
    omega
  · rw [decide_eq_false hk2]
    simp only [Option.isNone_none, Bool.true_and, beq_eq_false_iff_ne]
    omega
end Go.Wi
namespace Go.Proofs
open Go.RowKit Go.Wi
set_option maxRecDepth 4000 in
set_option maxHeartbeats 8000000 in
theorem Try.wireBackWalk (u : Value) (q : List Wi.Th) (f : Wi.Th → List Int) (w : World) (hP : Wi.Things w u q) (hF : Full w f q) :
    Calls Try.prog 7 #[u] w fun e w' => e = .returned (.bool true) ∧ Below w.heap.size w w' := by
  have h0 := Try.shown_any w
  obtain ⟨ua, ucap, rfl, hucap, hum, -⟩ := hP.ex
  have hum' : q.length ≤ 9223372036854775807 := Nat.le_trans hucap hum
  have HP : Hid (Wi.Things w (.slice ua q.length ucap) q) := hP
  have HF : Hid (Full w f q) := hF
  clear hP hF hum
  go_enter Try.func7, Try.ntmps7
  go_upto_if 29 with (first
    | (go_at_call 9; refine h0.mono ?_; clear h0; rintro e w1 ⟨rfl, hb1⟩; have h1 := Try.WB.new w1)
    | (go_at_call 13; refine h1.mono ?_; clear h1; rintro e w2 ⟨y, rfl, hW2⟩; have h2 := Try.beyond_any (Wi.Things.up (Wi.Things.up HP.out hb1) hW2.bel) (Full.up (Full.up HF.out hb1) hW2.bel) 2147483647 (by decide))
    | (go_at_call 38; refine h2.mono ?_; clear h2; rintro e w3 ⟨⟨bb, rfl, hbb⟩, n3, rfl⟩)
    | fail)
  have hW3 := hW2.below (belowN (Below.refl _ _) n3)
  by_cases hb1' : bb = 1
  · subst hb1'
    go_wp2
    go_ret
    exact ⟨rfl, hb1.trans (hW3.bel.mono hb1.size)⟩
  · have hwt : wts f q ≤ 2147483647 := hbb hb1'
    have Hwt : Hid (wts f q ≤ 2147483647) := hwt
    have HW3 : Hid (Try.WB w1.heap.size w1 (w2.drewN n3) y (tbs f (q.take 0))) := (by show Try.WB w1.heap.size w1 (w2.drewN n3) y (tbs f (q.take 0)); simpa [tbs] using hW3)
    have HP1 : Hid (Wi.Things w1 (.slice ua q.length ucap) q) := Wi.Things.up HP.out hb1
    have HF1 : Hid (Full w1 f q) := Full.up HF.out hb1
    simp only [decide_eq_false hb1']
    clear hwt hbb hb1' hW3 hW2 HP HF
    generalize w2.drewN n3 = w3 at *
    go_wp2
    go_loopw [6] (fun i wr => ∃ k : Nat, k ≤ q.length ∧ i = .int .i64 k ∧ Try.WB w1.heap.size w1 wr y (tbs f (q.take k))) (fun i _ => q.length - (intOf i).toNat)
    case atStart => exact ⟨0, Nat.zero_le _, rfl, HW3.out⟩
    case round =>
      obtain ⟨k, hk, rfl, hW⟩ := hrel
      by_cases hkq : k < q.length
      · have q0 : (k : Int) < (q.length : Int) := by omega
        obtain ⟨p, hp⟩ : ∃ p, q[k]? = some p := ⟨_, List.getElem?_eq_getElem hkq⟩
        have hpm := List.mem_of_getElem? hp
        obtain ⟨ad', cap', e, -, -, hP2⟩ := (Wi.Things.up HP1.out hW.bel).ex
        cases e
        rcases hP2 with hP2 | ⟨pb, po, rfl, hpb, hP2⟩
        · rw [hP2] at hkq; exact absurd hkq (by simp)
        · obtain ⟨c0, c1, c2, c3, c4⟩ := hP2 k p hp
          have hIs := HF1.out.is p hpm
          obtain ⟨la, lc, hlv, -⟩ := hIs.ex
          have h3 := Try.writes_any hW p (f p) hIs (HF1.out.ns p hpm).1 (HF1.out.ns p hpm).2 (by
            have e1 := wts_snoc f (q.take k) p
            have e2 : q.take k ++ [p] = q.take (k + 1) := by rw [List.take_add_one, hp]; rfl
            have e3 := wts_take f q (k + 1)
            have e4 := (tbs_len w1 f (q.take k) ⟨fun x hx => HF1.out.is x (List.mem_of_mem_take hx), fun x hx => HF1.out.ss x (List.mem_of_mem_take hx), fun x hx => HF1.out.ls x (List.mem_of_mem_take hx), fun x hx => HF1.out.ns x (List.mem_of_mem_take hx)⟩).2
            have e5 := Hwt.out
            rw [e2] at e1
            omega)
          unfold Wi.thV at h3
          rw [hlv] at c4 h3
          have Hnx : Hid (tbs f (q.take k) ++ tb p (f p) = tbs f (q.take (k + 1))) := (by
            have e2 : q.take k ++ [p] = q.take (k + 1) := by rw [List.take_add_one, hp]; rfl
            show _ = _
            rw [← e2, tbs_snoc])
          clear hP2 hlv hIs
          go_wp2_with (first
            | (go_at_call 39; refine h3.mono ?_; clear h3; rintro e w5 ⟨⟨v5, rfl⟩, hW5⟩)
            | fail)
          go_roundw
          case rel => exact ⟨k + 1, by omega, by go_num, by rw [← Hnx.out]; exact hW5⟩
          case measure => simp [intOf]; omega
      · have q0 : ¬ (k : Int) < (q.length : Int) := by omega
        have hkk : k = q.length := by omega
        rw [hkk, List.take_length] at hW
        have hL := tbs_len w1 f q HF1.out
        have HL : Hid ((tbs f q).length ≤ 140737488355328) := (by have := Hwt.out; show _ ≤ _; omega)
        obtain ⟨L, hLe⟩ : ∃ L, L = tbs f q := ⟨_, rfl⟩
        rw [← hLe] at hW HL
        have HLe : Hid (L = tbs f q) := hLe
        have h5 := hW.bytes HL.out
        clear hL hLe hkk
        go_wp2_with (first
          | (go_at_call 22; refine h5.mono ?_; clear h5; rintro e w6 ⟨ad6, cap6, rfl, hown6, hb6⟩; have h7 := Try.RB.new (Bs.ofRow hown6) HL.out)
          | (go_at_call 12; refine h7.mono ?_; clear h7; rintro e w8 ⟨r, rfl, hR8⟩)
          | fail)
        have HR8 : Hid (Try.RB w6.heap.size w6 w8 r ⟨L, (tbs f (q.take 0)).length, none⟩) := (by show Try.RB w6.heap.size w6 w8 r ⟨L, (tbs f (q.take 0)).length, none⟩; simpa [tbs] using hR8)
        have HB6 : Hid (Below w1.heap.size w1 w6 ∧ w1.heap.size ≤ w6.heap.size) := ⟨hW.bel.trans (hb6.mono hW.le), Nat.le_trans hW.le hb6.size⟩
        have Hb1 : Hid (Below w.heap.size w w1) := hb1
        clear hR8 hown6 hb6 hW hb1 HW3
        go_loopw [8, 9, 10, 11, 12, 13, 14, 15, 16] (fun i _ _ _ _ _ _ _ _ wr => ∃ k : Nat, k ≤ q.length ∧ i = .int .i64 k ∧ Try.RB w6.heap.size w6 wr r ⟨L, (tbs f (q.take k)).length, none⟩) (fun i _ _ _ _ _ _ _ _ _ => q.length - (intOf i).toNat)
        case atStart => exact ⟨0, Nat.zero_le _, rfl, HR8.out⟩
        case round =>
          obtain ⟨k, hk, rfl, hR⟩ := hrel
          have HB : Hid (Below w1.heap.size w1 wr) := HB6.out.1.trans (hR.bel.mono HB6.out.2)
          by_cases hkq : k < q.length
          · have q0 : (k : Int) < (q.length : Int) := by omega
            obtain ⟨p, hp⟩ : ∃ p, q[k]? = some p := ⟨_, List.getElem?_eq_getElem hkq⟩
            have hpm := List.mem_of_getElem? hp
            obtain ⟨ad', cap', e, -, -, hP2⟩ := (Wi.Things.up HP1.out HB.out).ex
            cases e
            rcases hP2 with hP2 | ⟨pb, po, rfl, hpb, hP2⟩
            · rw [hP2] at hkq; exact absurd hkq (by simp)
            · obtain ⟨c0, c1, c2, c3, c4⟩ := hP2 k p hp
              have hIs := HF1.out.is p hpm
              obtain ⟨la, lc, hlv, -⟩ := hIs.ex
              have HIs : Hid (Is w1 (.slice la (f p).length lc) (f p)) := (by rw [← hlv]; exact hIs)
              rw [hlv] at c4
              have hns := HF1.out.ns p hpm
              have hRI := Try.RI.new hR #[.int .i64 p.k, .int .i64 p.n, .bool p.y, .string p.s, .slice la (f p).length lc] 34
              have hkd := Try.kind_any p.k p.n p.y p.s la (f p).length lc (wr.alloc (.cells #[.int .i64 p.k, .int .i64 p.n, .bool p.y, .string p.s, .slice la (f p).length lc] 34)) hns.1
              obtain ⟨pre, hpre⟩ : ∃ pre, pre = tbs f (q.take k) := ⟨_, rfl⟩
              obtain ⟨rest, hrest⟩ : ∃ rest, rest = tbs f (q.drop (k + 1)) := ⟨_, rfl⟩
              have hsp := tbs_split f q k p hp
              rw [← HLe.out, ← hpre, ← hrest] at hsp
              have Hsp : Hid (L = pre ++ (tb p (f p) ++ rest)) := hsp
              rw [← hpre] at hRI
              obtain ⟨P', hP'⟩ : ∃ P', P' = pre.length + (tb p (f p)).length := ⟨_, rfl⟩
              have e2 : q.take k ++ [p] = q.take (k + 1) := by rw [List.take_add_one, hp]; rfl
              have HP' : Hid (P' = (tbs f (q.take (k + 1))).length) := (by show _ = _; rw [← e2, tbs_snoc, List.length_append, hP', hpre])
              have hfin := tbs_fin w1 f q HF1.out (k + 1) (by omega)
              rw [← HLe.out, ← HP'.out] at hfin
              obtain ⟨bf, hbf⟩ : ∃ bf, bf = decide (k + 1 = q.length) := ⟨_, rfl⟩
              rw [← hbf] at hfin
              have hw1 : wrap64 ((q.length : Int) - 1) = (q.length : Int) - 1 := Wi.w64 _ (by omega) (by omega)
              have hc2 : ((k : Int) == (q.length : Int) - 1) = bf := by
                rw [hbf]
                by_cases e3 : k + 1 = q.length
                · rw [decide_eq_true e3]; simp; omega
                · rw [decide_eq_false e3]; simp; omega
              have HPe : Hid (P' = pre.length + (tb p (f p)).length) := hP'
              have Hns : Hid (In64 p.n) := hns.2
              have HF2 : Hid ((∀ n ∈ f p, In64 n) ∧ (f p).length ≤ 1000000000000) := ⟨hIs.ok, (by
                have e5 := wts_snoc f (q.take k) p
                have e6 := wts_take f q (k + 1)
                have e7 := Hwt.out
                rw [e2] at e5
                unfold wt at e5
                omega)⟩
              have HF3 : Hid (p.s.size ≤ 140737488351232) := HF1.out.ss p hpm
              clear hP2 hlv hIs hns hpre hrest hsp hP' e2 hbf hp hpm hR HR8
              have hkl := Wi.kd_lt p.k
              have hk4 : Wi.kd p.k = 0 ∨ Wi.kd p.k = 1 ∨ Wi.kd p.k = 2 ∨ Wi.kd p.k = 3 := by omega
              clear hkl
              obtain ⟨gk, hgk⟩ : ∃ gk, gk = wr.heap.size := ⟨_, rfl⟩
              rcases hk4 with e | e | e | e
              · have hin : (Rs.mk L pre.length none).int = (p.n, ⟨L, P', none⟩) := by
                  have e8 : tb p (f p) = cnt (zig p.n) := by unfold tb; rw [if_pos e]
                  have := int_read pre rest p.n Hns.out.1 Hns.out.2
                  rw [← e8, ← Hsp.out, ← HPe.out] at this
                  exact this
                rw [e] at hkd
                clear e hgk
                go_wp2_with (first
                  | (go_at_call 14; refine hkd.mono ?_; clear hkd; rintro e w10 ⟨rfl, hb10⟩; have hRI10 := hRI.below hb10; have h10 := hRI10.rInt; rw [hin] at h10)
                  | (go_at_call 15; refine h10.mono ?_; clear h10; rintro e w11 ⟨rfl, hRI11⟩; have d1 := cell_of_row w11 _ 1 _ _ _ hRI11.kept; have h13 := hRI11.rb.errNone rfl; have h14 := hRI11.rb.fin; simp only [hfin] at h14)
                  | (go_at_call 16; refine h13.mono ?_; clear h13; rintro e w14 ⟨rfl, rfl⟩)
                  | (go_at_call 23; refine h14.mono ?_; clear h14; rintro e w15 ⟨rfl, hR15⟩)
                  | fail)
                go_roundw
                case rel => exact ⟨k + 1, by omega, by go_num, by rw [← HP'.out]; exact hR15⟩
                case measure => simp [intOf]; omega
              · have hin : (Rs.mk L pre.length none).flag = (p.y, ⟨L, P', none⟩) := by
                  have e8 : tb p (f p) = [if p.y then 1 else 0] := by unfold tb; rw [if_neg (by omega), if_pos e]
                  have := flag_read pre rest p.y
                  have e9 : pre ++ ((if p.y then 1 else 0) :: rest) = L := by rw [Hsp.out, e8]; rfl
                  have e10 : pre.length + 1 = P' := by rw [HPe.out, e8]; rfl
                  rw [e9, e10] at this
                  exact this
                rw [e] at hkd
                clear e hgk
                go_wp2_with (first
                  | (go_at_call 14; refine hkd.mono ?_; clear hkd; rintro e w10 ⟨rfl, hb10⟩; have hRI10 := hRI.below hb10; have h10 := hRI10.rFlag; rw [hin] at h10)
                  | (go_at_call 18; refine h10.mono ?_; clear h10; rintro e w11 ⟨rfl, hRI11⟩; have d1 := cell_of_row w11 _ 2 _ _ _ hRI11.kept; have h13 := hRI11.rb.errNone rfl; have h14 := hRI11.rb.fin; simp only [hfin] at h14)
                  | (go_at_call 16; refine h13.mono ?_; clear h13; rintro e w14 ⟨rfl, rfl⟩)
                  | (go_at_call 23; refine h14.mono ?_; clear h14; rintro e w15 ⟨rfl, hR15⟩)
                  | fail)
                go_roundw
                case rel => exact ⟨k + 1, by omega, by go_num, by rw [← HP'.out]; exact hR15⟩
                case measure => simp [intOf]; omega
              · have hxx : (ByteArray.mk p.s.data.toList.toArray) = p.s := by simp
                have hin : (Rs.mk L pre.length none).text = (p.s.data.toList, ⟨L, P', none⟩) := by
                  have e8 : tb p (f p) = cnt p.s.size ++ p.s.data.toList := by unfold tb; rw [if_neg (by omega), if_neg (by omega), if_pos e]
                  have hxl : p.s.data.toList.length = p.s.size := rfl
                  have := text_read pre rest p.s.data.toList (by rw [hxl]; have := HF3.out; omega)
                  rw [hxl] at this
                  have e9 : pre ++ (cnt p.s.size ++ (p.s.data.toList ++ rest)) = L := by rw [Hsp.out, e8, List.append_assoc]
                  have e10 : pre.length + (cnt p.s.size).length + p.s.size = P' := by rw [HPe.out, e8, List.length_append, hxl]; omega
                  rw [e9, e10] at this
                  exact this
                rw [e] at hkd
                clear e hgk
                go_wp2_with (first
                  | (go_at_call 14; refine hkd.mono ?_; clear hkd; rintro e w10 ⟨rfl, hb10⟩; have hRI10 := hRI.below hb10; have h10 := hRI10.rText; rw [hin] at h10; simp only [hxx] at h10)
                  | (go_at_call 20; refine h10.mono ?_; clear h10; rintro e w11 ⟨rfl, hRI11⟩; have d1 := cell_of_row w11 _ 3 _ _ _ hRI11.kept; have h13 := hRI11.rb.errNone rfl; have h14 := hRI11.rb.fin; simp only [hfin] at h14)
                  | (go_at_call 16; refine h13.mono ?_; clear h13; rintro e w14 ⟨rfl, rfl⟩)
                  | (go_at_call 23; refine h14.mono ?_; clear h14; rintro e w15 ⟨rfl, hR15⟩)
                  | fail)
                go_roundw
                case rel => exact ⟨k + 1, by omega, by go_num, by rw [← HP'.out]; exact hR15⟩
                case measure => simp [intOf]; omega
              · have e8 : tb p (f p) = cnt (f p).length ++ zs (f p) := by unfold tb; rw [if_neg (by omega), if_neg (by omega), if_neg (by omega)]
                have e9 : L = pre ++ (cnt (f p).length ++ (zs (f p) ++ rest)) := by rw [Hsp.out, e8, List.append_assoc]
                have e10 : P' = pre.length + (cnt (f p).length).length + (zs (f p)).length := by rw [HPe.out, e8, List.length_append]; omega
                have hrl : ∀ W, Try.RI w6.heap.size w6 W r ⟨L, pre.length, none⟩ (.slice none 0 0) [] wr.heap.size (.cells #[.int .i64 p.k, .int .i64 p.n, .bool p.y, .string p.s, .slice la (f p).length lc] 34 (0, 0)) → _ := fun W hW => Try.readList_ok pre rest (f p) L e9 hW HF2.out.1 HF2.out.2 P' e10
                rw [e] at hkd
                have hli : (f p).length ≤ 1000000000000 := HF2.out.2
                clear e e8 e9 e10 hgk
                go_wp2_with (first
                  | (go_at_call 14; refine hkd.mono ?_; clear hkd; rintro e w10 ⟨rfl, hb10⟩; have hRI10 := hRI.below hb10; have d4 := cell_of_row w10 _ 4 _ _ _ hRI10.kept; have h10 := hrl w10 hRI10)
                  | (go_at_call 40; refine h10.mono ?_; clear h10; rintro e w11 ⟨ra, rc, rfl, hRI11⟩; have d5 := cell_of_row w11 _ 4 _ _ _ hRI11.kept)
                  | fail)
                have hrow : ∀ j (hj : j < (f p).length), ∃ rg, ra = some ⟨rg, 0, none⟩ ∧ w11.cell? ⟨rg, 0 + j, none⟩ = some (.int .i64 (f p)[j]) := fun j hj => by
                  have h3 := hRI11.row
                  rcases h3.2 with ⟨e, e0⟩ | ⟨rg, c, cur, e, -⟩
                  · omega
                  · cases e
                    have := h3.cells (g := rg) rfl j (.int .i64 (f p)[j]) (by simp [Wi.ics, hj])
                    rw [Addr.add_mid] at this
                    exact ⟨rg, rfl, this⟩
                have hls : ∀ j (hj : j < (f p).length), ∃ sb so, la = some ⟨sb, so, none⟩ ∧ w11.cell? ⟨sb, so + j, none⟩ = some (.int .i64 (f p)[j]) := fun j hj => by
                  obtain ⟨a1, c1, e1, h3⟩ := (Is.up HIs.out (HB6.out.1.trans (hRI11.bel.mono HB6.out.2))).ex
                  cases e1
                  rcases h3 with h3 | ⟨sb, so, e2, -, h3⟩
                  · rw [h3] at hj; simp at hj
                  · exact ⟨sb, so, e2, h3 j hj⟩
                have h13 : ∀ m, Calls Try.prog 16 #[.pointer (some ⟨r, 0, none⟩)] (w11.drewN m) fun e w' => e = .returned .nilIface ∧ w' = w11.drewN m := fun m => (hRI11.drewN m).rb.errNone rfl
                have h14 : ∀ m, Calls Try.prog 23 #[.pointer (some ⟨r, 0, none⟩)] (w11.drewN m) fun e w' => e = .returned (.bool bf) ∧ Try.RB w6.heap.size w6 w' r ⟨L, P', none⟩ := fun m => by
                  have := (hRI11.drewN m).rb.fin
                  simp only [hfin] at this
                  exact this
                have HRI : Hid (w11.cell? ⟨wr.heap.size, 4, none⟩ = some (.slice la (f p).length lc)) := d5
                clear d4 hRI hRI10 hRI11 hrl c0 c1 c2 c3 c4
                go_loopw [14] (fun i wx => ∃ j m : Nat, j ≤ (f p).length ∧ i = .int .i64 j ∧ wx = w11.drewN m) (fun i _ => (f p).length - (intOf i).toNat)
                case atStart => exact ⟨0, 0, Nat.zero_le _, rfl, rfl⟩
                case round =>
                  obtain ⟨j, m, hj, rfl, rfl⟩ := hrel
                  by_cases hjl : j < (f p).length
                  · have q5 : (j : Int) < ((f p).length : Int) := by omega
                    obtain ⟨rg, rfl, r1⟩ := hrow j hjl
                    obtain ⟨sb, so, rfl, s1⟩ := hls j hjl
                    generalize (f p)[j] = nn at r1 s1
                    have r2 : w11.cell? ⟨rg, j, none⟩ = some (.int .i64 nn) := by rw [Nat.zero_add] at r1; exact r1
                    clear hrow hls h13 h14
                    go_wp2
                    go_quiet (fail)
                    go_wp2
                    go_roundw
                    case rel => exact ⟨j + 1, _, by omega, by go_num, rfl⟩
                    case measure => simp [intOf]; omega
                  · have q5 : ¬ (j : Int) < ((f p).length : Int) := by omega
                    have h13' := h13 m
                    have h14' := h14 m
                    clear hrow hls h13 h14
                    go_wp2_with (first
                      | (go_at_call 16; refine h13'.mono ?_; clear h13'; rintro e w14 ⟨rfl, rfl⟩)
                      | (go_at_call 23; refine h14'.mono ?_; clear h14'; rintro e w15 ⟨rfl, hR15⟩)
                      | fail)
                    go_roundw
                    case rel => exact ⟨k + 1, by omega, by go_num, by rw [← HP'.out]; exact hR15⟩
                    case measure => simp [intOf]; omega
          · have q0 : ¬ (k : Int) < (q.length : Int) := by omega
            have hkk : k = q.length := by omega
            have hfin := tbs_fin w1 f q HF1.out k (by omega)
            rw [← HLe.out, decide_eq_true hkk] at hfin
            have h13 := hR.errNone rfl
            have h14 := hR.fin
            rw [hfin] at h14
            clear hfin hkk
            go_wp2_with (first
              | (go_at_call 16; refine h13.mono ?_; clear h13; rintro e w14 ⟨rfl, rfl⟩)
              | (go_at_call 23; refine h14.mono ?_; clear h14; rintro e w15 ⟨rfl, hR15⟩)
              | fail)
            go_ret
            exact ⟨rfl, Hb1.out.trans ((HB6.out.1.trans (hR15.bel.mono HB6.out.2)).mono Hb1.out.size)⟩
end Go.Proofs
