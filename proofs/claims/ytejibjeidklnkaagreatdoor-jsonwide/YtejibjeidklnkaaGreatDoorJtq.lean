/-
  The laws' 'tokens' of a list.
-/
import Derived.Test.YtejibjeidklnkaaGreatDoorJtp
namespace Go.Proofs
open Go.RowKit Go.Jv
theorem Jv.row_up {w w' : World} {B : Nat} {e : TypeId} {v : Value} {n : Nat} {xs : List Value} (h : w.ownsRow B e 1 v n xs) (hb : Below w.heap.size w w') : w'.ownsRow B e 1 v n xs := by
  refine ⟨h.1, ?_⟩
  rcases h.2 with h1 | ⟨g, cap, cur, h1, h2, h3, h4⟩
  · exact .inl h1
  · exact .inr ⟨g, cap, cur, h1, h2, (hb.block g (Array.getElem?_eq_some_iff.1 h3).1).trans h3, h4⟩
theorem Jv.tks_app (a b : List ByteArray) : Jv.tks (a ++ b) = Jv.tks a ++ Jv.tks b := by simp [Jv.tks]
theorem Jv.tks_len (a : List ByteArray) : (Jv.tks a).length = a.length := by simp [Jv.tks]
theorem Jv.tks_one (l : List ByteArray) : ∀ u ∈ Jv.tks l, u.oneCell' = true := fun u hu => by
  obtain ⟨s, -, rfl⟩ := List.mem_map.1 hu
  rfl
theorem Jv.tw_pos {d : Nat} {v : V} {l : List ByteArray} (h : TW d v l) : 0 < l.length := by
  cases l with
  | nil =>
    have h1 := h.fl
    obtain ⟨c, r, h2, -⟩ := pr_head v
    rw [h2] at h1
    simp [flat] at h1
  | cons x r => simp
/-- One item more. -/
theorem Tryz.Lu.next {d : Nat} {w wr W : World} {ov nv : Value} {vs : List V} {v : V} {body l : List ByteArray} (h : Tryz.Lu d w wr ov vs body) (hl : TW d v l) (hc : l.length ≤ Jv.Cn d) (hb : (flat l).length ≤ Jv.Bn d) (n : Nat) (hn : n = body.length + 1 + (if 0 < vs.length then 1 else 0) + l.length)
    (hr : W.ownsRow w.heap.size 9 1 nv n (Jv.tks (tok 91 :: body) ++ ((if 0 < vs.length then [.string (tok 44)] else []) ++ Jv.tks l))) (hB : Below w.heap.size w W) : Tryz.Lu d w W nv (vs ++ [v]) (body ++ ((if 0 < vs.length then [tok 44] else []) ++ l)) := by
  have e1 : (body ++ ((if 0 < vs.length then [tok 44] else []) ++ l)).length + 1 = n := by rw [hn]; split <;> simp <;> omega
  have e2 : Jv.tks (tok 91 :: (body ++ ((if 0 < vs.length then [tok 44] else []) ++ l))) = Jv.tks (tok 91 :: body) ++ ((if 0 < vs.length then [.string (tok 44)] else []) ++ Jv.tks l) := by
    split <;> simp [Jv.tks]
  refine ⟨h.lb.next hl, by rw [e1, e2]; exact hr, ?_, ?_, hB⟩
  · have := h.cn
    rw [List.length_append, List.length_append, List.length_append, List.length_singleton, Nat.add_mul, Nat.one_mul]
    split <;> simp <;> omega
  · have := h.bn
    rw [flat_app, flat_app, List.length_append, List.length_append, List.length_append, List.length_singleton, Nat.add_mul, Nat.one_mul]
    split <;> simp [flat, tok] at * <;> omega
/-- The last bracket. -/
theorem Tryz.Lu.done {d : Nat} {w0 w wr W : World} {ov : Value} {vs : List V} {body : List ByteArray} {g c : Nat} (h : Tryz.Lu d w wr ov vs body) (h3 : vs.length ≤ 3) (hb : Below w0.heap.size w0 w)
    (hr : W.ownsRow w.heap.size 9 1 (.slice (some ⟨g, 0, none⟩) (body.length + 1 + 1) c) (body.length + 1 + 1) (Jv.tks (tok 91 :: body) ++ [.string (tok 93)])) (hB : Below w.heap.size w W) : Tryz.TOk (d + 1) w0 (.returned (.slice (some ⟨g, 0, none⟩) (body.length + 1 + 1) c)) W := by
  have e1 : (tok 91 :: (body ++ [tok 93])).length = body.length + 1 + 1 := by simp
  have e2 : Jv.tks (tok 91 :: (body ++ [tok 93])) = Jv.tks (tok 91 :: body) ++ [.string (tok 93)] := by simp [Jv.tks]
  refine ⟨.list vs, tok 91 :: (body ++ [tok 93]), _, rfl, ?_, h.lb.tw (by omega), ?_, ?_, hb.trans (hB.mono hb.size)⟩
  · rw [e1, e2]
    exact Jv.row_move hr fun g hg => ⟨Nat.le_trans hb.size (Jv.row_lt hr g hg).1, rfl⟩
  · rw [e1]
    have := h.cn
    have h5 : vs.length * (Jv.Cn d + 3) ≤ 3 * (Jv.Cn d + 3) := Nat.mul_le_mul_right _ h3
    show _ ≤ 3 * (Jv.Cn d + 3) + 2
    omega
  · have := h.bn
    have h5 : vs.length * (Jv.Bn d + 6) ≤ 3 * (Jv.Bn d + 6) := Nat.mul_le_mul_right _ h3
    have e3 : (flat (tok 91 :: (body ++ [tok 93]))).length = (flat body).length + 2 := by
      rw [show tok 91 :: (body ++ [tok 93]) = [tok 91] ++ (body ++ [tok 93]) from rfl, flat_app, flat_app, List.length_append, List.length_append]
      simp [flat, tok]
      omega
    rw [e3]
    show _ ≤ 3 * (Jv.Bn d + 6) + 2
    omega
set_option maxRecDepth 100000 in
set_option maxHeartbeats 4000000 in
theorem Tryz.tokens_list {w : World} {rv : Value} {li : List Int} (h : Jv.Iv w rv li) (i d : Nat) (hi : (i + 1) * 4 ^ (d + 1) ≤ 1000000000000) (hl : li.length ≤ 9223372036854775807) (hd : d ≤ 3) (hc : Jv.atv li i % 3 = 2)
    (ih : ∀ (W : World) (j : Nat), Below w.heap.size w W → (j + 1) * 4 ^ d ≤ 1000000000000 → Calls Tryz.prog 6 #[rv, .int .i64 j, .int .i64 d] W fun e w' => Tryz.TOk d W e w') :
    Calls Tryz.prog 6 #[rv, .int .i64 i, .int .i64 ((d : Int) + 1)] w fun e w' => Tryz.TOk (d + 1) w e w' := by
  have h4 : 1 ≤ 4 ^ (d + 1) := Nat.one_le_pow _ _ (by decide)
  have hi2 : i ≤ 1000000000000 := by
    have := Nat.le_mul_of_pos_right (i + 1) (by omega : 0 < 4 ^ (d + 1))
    omega
  have ha := Tryz.at_any h i (by omega) hl
  obtain ⟨ad, cap, rfl, -⟩ := h.ex
  have hlt := Jv.atv_lt li i
  generalize Jv.atv li i = c at *
  obtain ⟨n, hn1, hn2⟩ : ∃ n : Nat, n < 4 ∧ (c : Int) / 3 % 4 = (n : Int) := ⟨c / 3 % 4, Nat.mod_lt _ (by omega), by omega⟩
  have q0 : ¬ (d : Int) + 1 = 0 := by omega
  have q1 : ¬ (c : Int) % 3 = 0 := by omega
  have q2 : ¬ (c : Int) % 3 = 1 := by omega
  have q2' : ((c : Int) % 3 == 1) = false := by simpa using q2
  have q0' : ((d : Int) + 1 == 0) = false := by simpa using q0
  have q1' : ((c : Int) % 3 == 0) = false := by simpa using q1
  have IH : Hid _ := ih
  obtain ⟨i0, hi0, hz0, hz1, hz2⟩ := info_parts Tryz.info_str7
  obtain ⟨w1, hw1⟩ : ∃ w1, w1 = w.alloc (.cells #[.string (tok 91), .string (tok 93)] 9) := ⟨_, rfl⟩
  have hb1 : Below w.heap.size w w1 := by rw [hw1]; exact (Below.refl _ _).alloc (Nat.le_refl _) _
  clear h ih
  go_enter Tryz.func6, Tryz.ntmps6
  go_wp2_with (first
    | (go_at_call 7; refine ha.mono ?_; clear ha; rintro e2 w2 ⟨rfl, rfl⟩)
    | fail)
  rw [show (⟨#[91]⟩ : ByteArray) = tok 91 from rfl, show (⟨#[93]⟩ : ByteArray) = tok 93 from rfl, ← hw1]
  have hE : w1.heap[w2.heap.size]? = some (.cells #[.string (tok 91), .string (tok 93)] 9 (0, 0)) := by rw [hw1]; exact heap_alloc_new w2 _
  have hs1 : w1.heap.size = w2.heap.size + 1 := by rw [hw1]; simp
  have hn0 := heap_alloc_new w1 (.cells #[.string (tok 91)] 9)
  have HLU0 : Hid (Tryz.Lu d w1 (w1.alloc (.cells #[.string (tok 91)] 9)) (.slice (some ⟨w1.heap.size, 0, none⟩) 1 1) [] []) := ⟨lb_nil d, ⟨rfl, .inr ⟨_, 1, _, rfl, Nat.le_refl _, hn0, Nat.le_refl _, by unfold maxLen; omega, rfl, rfl⟩⟩, by simp, by simp [flat], (Below.refl _ _).alloc (Nat.le_refl _) _⟩
  have HE : Hid _ := hE
  have HB1 : Hid (Below w2.heap.size w2 w1) := hb1
  simp only [hn2]
  clear hw1 hE hn0 hb1 q0 q0' q1 q1' hn2
  go_loopw [10, 11, 12] (fun ov kv _ wr => ∃ (k : Nat) (vs : List V) (body : List ByteArray), kv = .int .i64 k ∧ k ≤ n ∧ k ≤ 2 ∧ vs.length = k ∧ Tryz.Lu d w1 wr ov vs body) (fun _ kv _ _ => n - (intOf kv).toNat)
  case atStart => exact ⟨0, [], [], rfl, Nat.zero_le _, by omega, rfl, by rw [hs1] at HLU0; exact HLU0.out⟩
  case round =>
    obtain ⟨k, vs, body, rfl, hkn, hk2, hvs, hLU⟩ := hrel
    clear HLU0
    by_cases hkl : k < n
    · have q3 : (k : Int) < (n : Int) := by omega
      have hbj : (3 * i + k + 1 + 1) * 4 ^ d ≤ 1000000000000 := by
        rw [Nat.pow_succ] at hi
        have h5 : (3 * i + k + 1 + 1) * 4 ^ d ≤ (4 * (i + 1)) * 4 ^ d := Nat.mul_le_mul_right _ (by omega)
        have h6 : 4 * (i + 1) * 4 ^ d = (i + 1) * (4 ^ d * 4) := by rw [Nat.mul_comm 4 (i + 1), Nat.mul_assoc, Nat.mul_comm 4 (4 ^ d)]
        omega
      have hcl : ∀ W, Below w2.heap.size w2 W → Calls Tryz.prog 6 #[.slice ad li.length cap, .int .i64 (3 * (i : Int) + (k : Int) + 1), .int .i64 d] W fun e w' => Tryz.TOk d W e w' := fun W hW => by
        have := IH.out W (3 * i + k + 1) hW hbj
        have e : (((3 * i + k + 1 : Nat) : Nat) : Int) = 3 * (i : Int) + (k : Int) + 1 := by omega
        rw [e] at this
        exact this
      have hwz := hLU.bel.size
      have hbs := hLU.cn
      have hCn : Jv.Cn d ≤ 600 := by
        have : d = 0 ∨ d = 1 ∨ d = 2 ∨ d = 3 := by omega
        rcases this with rfl | rfl | rfl | rfl <;> decide
      have hbl : body.length ≤ 2000 := by
        have : vs.length * (Jv.Cn d + 3) ≤ 2 * 603 := Nat.mul_le_mul (by omega) (by omega)
        omega
      have HLU : Hid (Tryz.Lu d w1 wr u10 vs body) := hLU
      have hrow := hLU.row
      clear hLU hbs hi h4 hbj
      by_cases hk0 : k = 0
      · subst hk0
        obtain rfl := List.eq_nil_of_length_eq_zero hvs
        have hcall := hcl wr (HB1.out.trans (HLU.out.bel.mono HB1.out.size))
        go_wp2_with (first
          | (go_at_call 6; refine hcall.mono ?_; clear hcall; rintro e5 w5 ⟨v, l, sv, rfl, hrl, htw, hcn, hbn, hb5⟩
             have hl0 := Jv.tw_pos htw
             obtain ⟨gl, ccl, rfl, -, -⟩ := hrl.form hl0
             have hrow5 := Jv.row_up hrow hb5
             have hz5 := hb5.size)
          | (at_builtin; refine wpList_append_lies _ rfl _ _ 24 rfl w1.heap.size 9 i0 _ 1 16 Tryz.underlying24 hi0 hz0 hz1 hz2 rfl (by omega) u10 (body.length + 1) (Jv.tks (tok 91 :: body)) (by rfl) hrow5 ⟨gl, 0, none⟩ l.length ccl (Jv.tks l) (by rfl) (by rw [Jv.tks_len]; omega) (fun j u hu => hrl.cells (g := gl) rfl j u hu) (Jv.tks_one l) hl0 (by unfold maxLen; omega) (by omega) (Nat.le_trans hwz hz5) w5.heap.size rfl ?_; intro g6 c6 w6 hown6 hgrow6 hat6 hlt6)
          | fail)
        go_roundw
        case rel =>
          refine ⟨1, [] ++ [v], body ++ ((if 0 < ([] : List V).length then [tok 44] else []) ++ l), rfl, by omega, by omega, rfl, ?_⟩
          refine HLU.out.next htw hcn hbn (body.length + 1 + l.length) (by simp) (by simpa using hown6) ?_
          exact (HLU.out.bel.trans (hb5.mono hwz)).grown ⟨hgrow6.os, hgrow6.tape, hgrow6.output, hgrow6.size, hgrow6.block⟩ (Nat.le_trans hwz hz5) (fun k hk => (Jv.row_lt hrow k hk).1)
        case measure => simp [intOf]; omega
      · obtain ⟨A3, hA3⟩ : ∃ A : Obj, A = .cells #[.string ⟨#[44]⟩] 9 := ⟨_, rfl⟩
        have q4 : (0 : Int) < (k : Int) := by omega
        have hrowA := hrow.alloc A3
        have hnA : (wr.alloc A3).heap[wr.heap.size]? = some (.cells #[.string ⟨#[44]⟩] 9 (0, 0)) := by rw [hA3]; exact heap_alloc_new wr _
        have hbA := HLU.out.bel.alloc hwz A3
        have hzA : (wr.alloc A3).heap.size = wr.heap.size + 1 := by simp
        have hpos : 0 < vs.length := by omega
        by_cases hk1 : k = 1
        · subst hk1
          go_wp2_with (first
            | (rw [← hA3]; at_builtin; refine wpList_append_lies _ rfl _ _ 24 rfl w1.heap.size 9 i0 _ 1 16 Tryz.underlying24 hi0 hz0 hz1 hz2 rfl (by omega) u10 (body.length + 1) (Jv.tks (tok 91 :: body)) (by rfl) hrowA ⟨wr.heap.size, 0, none⟩ 1 1 [.string ⟨#[44]⟩] (by rfl) rfl (World.news_of_block hnA) (by intro u hu; cases List.mem_singleton.1 hu; rfl) (by omega) (by unfold maxLen; omega) (by omega) (by omega) _ hzA ?_; intro g3 c3 w3 hown3 hgrow3 hat3 hlt3
               have hb3 : Below w1.heap.size w1 w3 := hbA.grown ⟨hgrow3.os, hgrow3.tape, hgrow3.output, hgrow3.size, hgrow3.block⟩ (by omega) (fun k hk => (Jv.row_lt hrow k hk).1)
               have hcall := hcl w3 (HB1.out.trans (hb3.mono HB1.out.size)))
            | (go_at_call 6; refine hcall.mono ?_; clear hcall; rintro e5 w5 ⟨v, l, sv, rfl, hrl, htw, hcn, hbn, hb5⟩
               have hl0 := Jv.tw_pos htw
               obtain ⟨gl, ccl, rfl, -, -⟩ := hrl.form hl0
               have hrow5 := Jv.row_up hown3 hb5
               have hz3 := hb3.size
               have hz5 := hb5.size)
            | (at_builtin; refine wpList_append_lies _ rfl _ _ 24 rfl w1.heap.size 9 i0 _ 1 16 Tryz.underlying24 hi0 hz0 hz1 hz2 rfl (by omega) (.slice (some ⟨g3, 0, none⟩) (body.length + 1 + 1) c3) (body.length + 1 + 1) (Jv.tks (tok 91 :: body) ++ [.string ⟨#[44]⟩]) (by rfl) hrow5 ⟨gl, 0, none⟩ l.length ccl (Jv.tks l) (by rfl) (by rw [Jv.tks_len]; omega) (fun j u hu => hrl.cells (g := gl) rfl j u hu) (Jv.tks_one l) hl0 (by unfold maxLen; omega) (by omega) (by omega) w5.heap.size rfl ?_; intro g6 c6 w6 hown6 hgrow6 hat6 hlt6)
            | fail)
          go_roundw
          case rel => exact ⟨2, vs ++ [v], _, rfl, by omega, by omega, by simp [hvs], HLU.out.next htw hcn hbn (body.length + 1 + 1 + l.length) (by rw [if_pos hpos]) (by rw [if_pos hpos, ← List.append_assoc]; exact hown6) ((hb3.trans (hb5.mono hz3)).grown ⟨hgrow6.os, hgrow6.tape, hgrow6.output, hgrow6.size, hgrow6.block⟩ (by omega) (fun k hk => (Jv.row_lt hown3 k hk).1))⟩
          case measure => simp [intOf]; omega
        · have hk22 : k = 2 := by omega
          subst hk22
          go_wp2_with (first
            | (rw [← hA3]; at_builtin; refine wpList_append_lies _ rfl _ _ 24 rfl w1.heap.size 9 i0 _ 1 16 Tryz.underlying24 hi0 hz0 hz1 hz2 rfl (by omega) u10 (body.length + 1) (Jv.tks (tok 91 :: body)) (by rfl) hrowA ⟨wr.heap.size, 0, none⟩ 1 1 [.string ⟨#[44]⟩] (by rfl) rfl (World.news_of_block hnA) (by intro u hu; cases List.mem_singleton.1 hu; rfl) (by omega) (by unfold maxLen; omega) (by omega) (by omega) _ hzA ?_; intro g3 c3 w3 hown3 hgrow3 hat3 hlt3
               have hb3 : Below w1.heap.size w1 w3 := hbA.grown ⟨hgrow3.os, hgrow3.tape, hgrow3.output, hgrow3.size, hgrow3.block⟩ (by omega) (fun k hk => (Jv.row_lt hrow k hk).1)
               have hcall := hcl w3 (HB1.out.trans (hb3.mono HB1.out.size)))
            | (go_at_call 6; refine hcall.mono ?_; clear hcall; rintro e5 w5 ⟨v, l, sv, rfl, hrl, htw, hcn, hbn, hb5⟩
               have hl0 := Jv.tw_pos htw
               obtain ⟨gl, ccl, rfl, -, -⟩ := hrl.form hl0
               have hrow5 := Jv.row_up hown3 hb5
               have hz3 := hb3.size
               have hz5 := hb5.size)
            | (at_builtin; refine wpList_append_lies _ rfl _ _ 24 rfl w1.heap.size 9 i0 _ 1 16 Tryz.underlying24 hi0 hz0 hz1 hz2 rfl (by omega) (.slice (some ⟨g3, 0, none⟩) (body.length + 1 + 1) c3) (body.length + 1 + 1) (Jv.tks (tok 91 :: body) ++ [.string ⟨#[44]⟩]) (by rfl) hrow5 ⟨gl, 0, none⟩ l.length ccl (Jv.tks l) (by rfl) (by rw [Jv.tks_len]; omega) (fun j u hu => hrl.cells (g := gl) rfl j u hu) (Jv.tks_one l) hl0 (by unfold maxLen; omega) (by omega) (by omega) w5.heap.size rfl ?_; intro g6 c6 w6 hown6 hgrow6 hat6 hlt6
               have LU6 := HLU.out.next htw hcn hbn (body.length + 1 + 1 + l.length) (by rw [if_pos hpos]) (by rw [if_pos hpos, ← List.append_assoc]; exact hown6) ((hb3.trans (hb5.mono hz3)).grown ⟨hgrow6.os, hgrow6.tape, hgrow6.output, hgrow6.size, hgrow6.block⟩ (by omega) (fun k hk => (Jv.row_lt hown3 k hk).1))
               generalize body ++ ((if 0 < vs.length then [tok 44] else []) ++ l) = body6 at LU6
               have hz6 := LU6.bel.size
               have hE6 : w6.heap[w2.heap.size]? = some (.cells #[.string (tok 91), .string (tok 93)] 9 (0, 0)) := (LU6.bel.block _ (by omega)).trans HE.out
               have hE7 : w6.cell? ⟨w2.heap.size, 1, none⟩ = some (.string (tok 93)) := World.news_of_block hE6 1 _ rfl
               obtain ⟨A9, hA9⟩ : ∃ A : Obj, A = .cells #[.string (tok 93)] 9 := ⟨_, rfl⟩
               have hrow9 := LU6.row.alloc A9
               have hn9 : (w6.alloc A9).heap[w6.heap.size]? = some (.cells #[.string (tok 93)] 9 (0, 0)) := by rw [hA9]; exact heap_alloc_new w6 _
               have hb9 := LU6.bel.alloc hz6 A9
               have hz9 : (w6.alloc A9).heap.size = w6.heap.size + 1 := by simp
               have hbl6 : body6.length ≤ 2000 := by
                 have h7 := LU6.cn
                 have : (vs ++ [v]).length * (Jv.Cn d + 3) ≤ 3 * 603 := Nat.mul_le_mul (by simp [hvs]) (by omega)
                 omega)
            | (rw [← hA9]; at_builtin; refine wpList_append_lies _ rfl _ _ 24 rfl w1.heap.size 9 i0 _ 1 16 Tryz.underlying24 hi0 hz0 hz1 hz2 rfl (by omega) (.slice (some ⟨g6, 0, none⟩) (body.length + 1 + 1 + l.length) c6) (body6.length + 1) (Jv.tks (tok 91 :: body6)) (by rfl) hrow9 ⟨w6.heap.size, 0, none⟩ 1 1 [.string (tok 93)] (by rfl) rfl (World.news_of_block hn9) (by intro u hu; cases List.mem_singleton.1 hu; rfl) (by omega) (by unfold maxLen; omega) (by omega) (by omega) _ hz9 ?_; intro g9 c9 w9 hown9 hgrow9 hat9 hlt9)
            | fail)
          go_ret
          exact LU6.done (by simp [hvs]) HB1.out hown9 (hb9.grown ⟨hgrow9.os, hgrow9.tape, hgrow9.output, hgrow9.size, hgrow9.block⟩ (by omega) (fun k hk => (Jv.row_lt LU6.row k hk).1))
    · have q3 : ¬ (k : Int) < (n : Int) := by omega
      have hz6 := hLU.bel.size
      have hE6 : wr.heap[w2.heap.size]? = some (.cells #[.string (tok 91), .string (tok 93)] 9 (0, 0)) := (hLU.bel.block _ (by omega)).trans HE.out
      have hE7 : wr.cell? ⟨w2.heap.size, 1, none⟩ = some (.string (tok 93)) := World.news_of_block hE6 1 _ rfl
      obtain ⟨A9, hA9⟩ : ∃ A : Obj, A = .cells #[.string (tok 93)] 9 := ⟨_, rfl⟩
      have hrow9 := hLU.row.alloc A9
      have hn9 : (wr.alloc A9).heap[wr.heap.size]? = some (.cells #[.string (tok 93)] 9 (0, 0)) := by rw [hA9]; exact heap_alloc_new wr _
      have hb9 := hLU.bel.alloc hz6 A9
      have hz9 : (wr.alloc A9).heap.size = wr.heap.size + 1 := by simp
      have hCn : Jv.Cn d ≤ 600 := by
        have : d = 0 ∨ d = 1 ∨ d = 2 ∨ d = 3 := by omega
        rcases this with rfl | rfl | rfl | rfl <;> decide
      have hbl : body.length ≤ 2000 := by
        have h7 := hLU.cn
        have : vs.length * (Jv.Cn d + 3) ≤ 2 * 603 := Nat.mul_le_mul (by omega) (by omega)
        omega
      have HLU : Hid (Tryz.Lu d w1 wr u10 vs body) := hLU
      clear hLU hi h4 hE6
      go_wp2_with (first
        | (rw [← hA9]; at_builtin; refine wpList_append_lies _ rfl _ _ 24 rfl w1.heap.size 9 i0 _ 1 16 Tryz.underlying24 hi0 hz0 hz1 hz2 rfl (by omega) u10 (body.length + 1) (Jv.tks (tok 91 :: body)) (by rfl) hrow9 ⟨wr.heap.size, 0, none⟩ 1 1 [.string (tok 93)] (by rfl) rfl (World.news_of_block hn9) (by intro u hu; cases List.mem_singleton.1 hu; rfl) (by omega) (by unfold maxLen; omega) (by omega) (by omega) _ hz9 ?_; intro g9 c9 w9 hown9 hgrow9 hat9 hlt9)
        | fail)
      go_ret
      exact HLU.out.done (by omega) HB1.out hown9 (hb9.grown ⟨hgrow9.os, hgrow9.tape, hgrow9.output, hgrow9.size, hgrow9.block⟩ (by omega) (fun k hk => (Jv.row_lt HLU.out.row k hk).1))
end Go.Proofs
