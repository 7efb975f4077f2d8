/-
  The laws' 'tokens' of an object.
-/
import Derived.Test.YtejibjeidklnkaaGreatDoorJtq
namespace Go.Proofs
open Go.RowKit Go.Jv
/-- The keys that 'tokens' takes. -/
def Jv.kys (k : Nat) : List ByteArray := [(⟨#[]⟩ : ByteArray), ⟨#[98]⟩, ⟨#[195, 169]⟩].take k
def Jv.ky (k : Nat) : ByteArray := [(⟨#[]⟩ : ByteArray), ⟨#[98]⟩, ⟨#[195, 169]⟩].getD k ⟨#[]⟩
theorem Jv.kys_next (k : Nat) (h : k ≤ 2) : Jv.kys (k + 1) = Jv.kys k ++ [Jv.ky k] := by
  have : k = 0 ∨ k = 1 ∨ k = 2 := by omega
  rcases this with rfl | rfl | rfl <;> rfl
theorem Jv.ky_len (k : Nat) (h : k ≤ 2) : (qText (Jv.ky k)).length ≤ 4 := by
  have : k = 0 ∨ k = 1 ∨ k = 2 := by omega
  rcases this with rfl | rfl | rfl <;> decide
theorem Jv.kys_ok (k : Nat) (h : k ≤ 3) : Rising (Jv.kys k) ∧ ∀ x ∈ Jv.kys k, Lib.validD x.data.toList = true := by
  have : k = 0 ∨ k = 1 ∨ k = 2 ∨ k = 3 := by omega
  rcases this with rfl | rfl | rfl | rfl
  · exact ⟨by simp [Jv.kys, Rising], by simp [Jv.kys]⟩
  all_goals exact ⟨by simp [Jv.kys, Rising]; try decide, by intro x hx; simp [Jv.kys] at hx; try (rcases hx with rfl | rfl | rfl <;> decide); try (rcases hx with rfl | rfl <;> decide); try (subst hx; decide)⟩
/-- The object under way. -/
structure Tryz.Ou (d : Nat) (w wr : World) (ov : Value) (vs : List V) (body : List ByteArray) : Prop where
  ob : OB d (Jv.kys vs.length) vs body
  row : wr.ownsRow w.heap.size 9 1 ov (body.length + 1) (Jv.tks (tok 123 :: body))
  cn : body.length ≤ vs.length * (Jv.Cn d + 3)
  bn : (flat body).length ≤ vs.length * (Jv.Bn d + 6)
  bel : Below w.heap.size w wr
theorem Tryz.Ou.next {d : Nat} {w wr W : World} {ov nv : Value} {vs : List V} {v : V} {body l : List ByteArray} (h : Tryz.Ou d w wr ov vs body) (hv : vs.length ≤ 2) (hl : TW d v l) (hc : l.length ≤ Jv.Cn d) (hb : (flat l).length ≤ Jv.Bn d) (kt : ByteArray) (hk : kt = ⟨(qText (Jv.ky vs.length)).toArray⟩) (n : Nat) (hn : n = body.length + 1 + (if 0 < vs.length then 1 else 0) + 2 + l.length)
    (hr : W.ownsRow w.heap.size 9 1 nv n (Jv.tks (tok 123 :: body) ++ ((if 0 < vs.length then [.string (tok 44)] else []) ++ ([.string kt, .string (tok 58)] ++ Jv.tks l)))) (hB : Below w.heap.size w W) : Tryz.Ou d w W nv (vs ++ [v]) (body ++ ((if 0 < vs.length then [tok 44] else []) ++ (⟨(qText (Jv.ky vs.length)).toArray⟩ :: tok 58 :: l))) := by
  have e1 : (body ++ ((if 0 < vs.length then [tok 44] else []) ++ ((⟨(qText (Jv.ky vs.length)).toArray⟩ : ByteArray) :: tok 58 :: l))).length + 1 = n := by rw [hn]; split <;> simp <;> omega
  have e2 : Jv.tks (tok 123 :: (body ++ ((if 0 < vs.length then [tok 44] else []) ++ (⟨(qText (Jv.ky vs.length)).toArray⟩ :: tok 58 :: l)))) = Jv.tks (tok 123 :: body) ++ ((if 0 < vs.length then [.string (tok 44)] else []) ++ ([.string kt, .string (tok 58)] ++ Jv.tks l)) := by
    rw [hk]
    split <;> simp [Jv.tks]
  refine ⟨?_, by rw [e1, e2]; exact hr, ?_, ?_, hB⟩
  · rw [List.length_append, List.length_singleton, Jv.kys_next _ hv]
    exact h.ob.next hl
  · have := h.cn
    rw [List.length_append, List.length_append, List.length_append, List.length_singleton, Nat.add_mul, Nat.one_mul]
    split <;> simp <;> omega
  · have := h.bn
    have h4 := Jv.ky_len _ hv
    rw [flat_app, flat_app, List.length_append, List.length_append, List.length_append, List.length_singleton, Nat.add_mul, Nat.one_mul, show flat ((⟨(qText (Jv.ky vs.length)).toArray⟩ : ByteArray) :: tok 58 :: l) = qText (Jv.ky vs.length) ++ ([58] ++ flat l) by simp [flat, tok]]
    split <;> simp [flat, tok] at * <;> omega
/-- The last bracket. -/
theorem Tryz.Ou.done {d : Nat} {w0 w wr W : World} {ov : Value} {vs : List V} {body : List ByteArray} {g c : Nat} (h : Tryz.Ou d w wr ov vs body) (h3 : vs.length ≤ 3) (hb : Below w0.heap.size w0 w)
    (hr : W.ownsRow w.heap.size 9 1 (.slice (some ⟨g, 0, none⟩) (body.length + 1 + 1) c) (body.length + 1 + 1) (Jv.tks (tok 123 :: body) ++ [.string (tok 125)])) (hB : Below w.heap.size w W) : Tryz.TOk (d + 1) w0 (.returned (.slice (some ⟨g, 0, none⟩) (body.length + 1 + 1) c)) W := by
  have e1 : (tok 123 :: (body ++ [tok 125])).length = body.length + 1 + 1 := by simp
  have e2 : Jv.tks (tok 123 :: (body ++ [tok 125])) = Jv.tks (tok 123 :: body) ++ [.string (tok 125)] := by simp [Jv.tks]
  refine ⟨.obj (Jv.kys vs.length) vs, tok 123 :: (body ++ [tok 125]), _, rfl, ?_, h.ob.tw (by omega) (Jv.kys_ok _ h3).1 (Jv.kys_ok _ h3).2, ?_, ?_, hb.trans (hB.mono hb.size)⟩
  · rw [e1, e2]
    exact Jv.row_move hr fun g hg => ⟨Nat.le_trans hb.size (Jv.row_lt hr g hg).1, rfl⟩
  · rw [e1]
    have := h.cn
    have h5 : vs.length * (Jv.Cn d + 3) ≤ 3 * (Jv.Cn d + 3) := Nat.mul_le_mul_right _ h3
    show _ ≤ 3 * (Jv.Cn d + 3) + 2
    omega
  · have := h.bn
    have h5 : vs.length * (Jv.Bn d + 6) ≤ 3 * (Jv.Bn d + 6) := Nat.mul_le_mul_right _ h3
    have e3 : (flat (tok 123 :: (body ++ [tok 125]))).length = (flat body).length + 2 := by
      rw [show tok 123 :: (body ++ [tok 125]) = [tok 123] ++ (body ++ [tok 125]) from rfl, flat_app, flat_app, List.length_append, List.length_append]
      simp [flat, tok]
      omega
    rw [e3]
    show _ ≤ 3 * (Jv.Bn d + 6) + 2
    omega
set_option maxRecDepth 100000 in
set_option maxHeartbeats 4000000 in
theorem Tryz.tokens_obj {w : World} {rv : Value} {li : List Int} (h : Jv.Iv w rv li) (i d : Nat) (hi : (i + 1) * 4 ^ (d + 1) ≤ 1000000000000) (hl : li.length ≤ 9223372036854775807) (hd : d ≤ 3) (hc : Jv.atv li i % 3 = 1)
    (ih : ∀ (W : World) (j : Nat), Below w.heap.size w W → (j + 1) * 4 ^ d ≤ 1000000000000 → Calls Tryz.prog 6 #[rv, .int .i64 j, .int .i64 d] W fun e w' => Tryz.TOk d W e w') :
    Calls Tryz.prog 6 #[rv, .int .i64 i, .int .i64 ((d : Int) + 1)] w fun e w' => Tryz.TOk (d + 1) w e w' := by
  have h4 : 1 ≤ 4 ^ (d + 1) := Nat.one_le_pow _ _ (by decide)
  have hi2 : i ≤ 1000000000000 := by
    have := Nat.le_mul_of_pos_right (i + 1) (by omega : 0 < 4 ^ (d + 1))
    omega
  have ha := Tryz.at_any h i (by omega) hl
  obtain ⟨ad, cap, rfl, -⟩ := h.ex
  have hlt := Jv.atv_lt li i
  generalize Jv.atv li i = c at *
  obtain ⟨n, hn1, hn2⟩ : ∃ n : Nat, n < 4 ∧ (c : Int) / 3 % 4 = (n : Int) := ⟨c / 3 % 4, Nat.mod_lt _ (by omega), by omega⟩
  have q0 : ¬ (d : Int) + 1 = 0 := by omega
  have q1 : ¬ (c : Int) % 3 = 0 := by omega
  have q2 : (c : Int) % 3 = 1 := by omega
  have q0' : ((d : Int) + 1 == 0) = false := by simpa using q0
  have q1' : ((c : Int) % 3 == 0) = false := by simpa using q1
  have IH : Hid _ := ih
  obtain ⟨i0, hi0, hz0, hz1, hz2⟩ := info_parts Tryz.info_str7
  obtain ⟨w1, hw1⟩ : ∃ w1, w1 = (w.alloc (.cells #[.string (tok 91), .string (tok 93)] 9)).alloc (.cells #[.string (tok 123), .string (tok 125)] 9) := ⟨_, rfl⟩
  have hb1 : Below w.heap.size w w1 := by rw [hw1]; exact ((Below.refl _ _).alloc (Nat.le_refl _) _).alloc (by simp) _
  clear h ih
  go_enter Tryz.func6, Tryz.ntmps6
  go_wp2_with (first
    | (go_at_call 7; refine ha.mono ?_; clear ha; rintro e2 w2 ⟨rfl, rfl⟩)
    | fail)
  rw [show (⟨#[91]⟩ : ByteArray) = tok 91 from rfl, show (⟨#[93]⟩ : ByteArray) = tok 93 from rfl, show (⟨#[123]⟩ : ByteArray) = tok 123 from rfl, show (⟨#[125]⟩ : ByteArray) = tok 125 from rfl, ← hw1]
  have hE : w1.heap[w2.heap.size + 1]? = some (.cells #[.string (tok 123), .string (tok 125)] 9 (0, 0)) := by
    have h0 := heap_alloc_new (w2.alloc (.cells #[.string (tok 91), .string (tok 93)] 9)) (.cells #[.string (tok 123), .string (tok 125)] 9)
    rw [World.size_alloc] at h0
    rw [hw1]
    exact h0
  have hs1 : w1.heap.size = w2.heap.size + 1 + 1 := by rw [hw1]; simp
  have hn0 := heap_alloc_new w1 (.cells #[.string (tok 123)] 9)
  have HLU0 : Hid (Tryz.Ou d w1 (w1.alloc (.cells #[.string (tok 123)] 9)) (.slice (some ⟨w1.heap.size, 0, none⟩) 1 1) [] []) := ⟨ob_nil d, ⟨rfl, .inr ⟨_, 1, _, rfl, Nat.le_refl _, hn0, Nat.le_refl _, by unfold maxLen; omega, rfl, rfl⟩⟩, by simp, by simp [flat], (Below.refl _ _).alloc (Nat.le_refl _) _⟩
  have HE : Hid _ := hE
  have HB1 : Hid (Below w2.heap.size w2 w1) := hb1
  simp only [hn2, q2]
  clear hw1 hE hn0 hb1 q0 q0' q1 q1' hn2
  go_loopw [10, 11, 12] (fun ov kv _ wr => ∃ (k : Nat) (vs : List V) (body : List ByteArray), kv = .int .i64 k ∧ k ≤ n ∧ k ≤ 2 ∧ vs.length = k ∧ Tryz.Ou d w1 wr ov vs body) (fun _ kv _ _ => n - (intOf kv).toNat)
  case atStart => exact ⟨0, [], [], rfl, Nat.zero_le _, by omega, rfl, by rw [hs1] at HLU0; exact HLU0.out⟩
  case round =>
    obtain ⟨k, vs, body, rfl, hkn, hk2, hvs, hLU⟩ := hrel
    clear HLU0
    by_cases hkl : k < n
    · have q3 : (k : Int) < (n : Int) := by omega
      have hbj : (3 * i + k + 1 + 1) * 4 ^ d ≤ 1000000000000 := by
        rw [Nat.pow_succ] at hi
        have h5 : (3 * i + k + 1 + 1) * 4 ^ d ≤ (4 * (i + 1)) * 4 ^ d := Nat.mul_le_mul_right _ (by omega)
        have h6 : 4 * (i + 1) * 4 ^ d = (i + 1) * (4 ^ d * 4) := by rw [Nat.mul_comm 4 (i + 1), Nat.mul_assoc, Nat.mul_comm 4 (4 ^ d)]
        omega
      have hcl : ∀ W, Below w2.heap.size w2 W → Calls Tryz.prog 6 #[.slice ad li.length cap, .int .i64 (3 * (i : Int) + (k : Int) + 1), .int .i64 d] W fun e w' => Tryz.TOk d W e w' := fun W hW => by
        have := IH.out W (3 * i + k + 1) hW hbj
        have e : (((3 * i + k + 1 : Nat) : Nat) : Int) = 3 * (i : Int) + (k : Int) + 1 := by omega
        rw [e] at this
        exact this
      have hwz := hLU.bel.size
      have hbs := hLU.cn
      have hCn : Jv.Cn d ≤ 600 := by
        have : d = 0 ∨ d = 1 ∨ d = 2 ∨ d = 3 := by omega
        rcases this with rfl | rfl | rfl | rfl <;> decide
      have hbl : body.length ≤ 2000 := by
        have : vs.length * (Jv.Cn d + 3) ≤ 2 * 603 := Nat.mul_le_mul (by omega) (by omega)
        omega
      have HLU : Hid (Tryz.Ou d w1 wr u10 vs body) := hLU
      have hrow := hLU.row
      clear hLU hbs hi h4 hbj
      by_cases hk0 : k = 0
      · subst hk0
        obtain rfl := List.eq_nil_of_length_eq_zero hvs
        go_wp2_with (first
          | (at_builtin
             have hzP : ((wr.alloc (.cells #[.string ⟨#[34, 34]⟩, .string ⟨#[34, 98, 34]⟩, .string ⟨#[34, 195, 169, 34]⟩] 9)).alloc (.cells #[.string ⟨#[34, 34]⟩, .string ⟨#[58]⟩] 9)).heap.size = wr.heap.size + 2 := by simp
             have hnP : ((wr.alloc (.cells #[.string ⟨#[34, 34]⟩, .string ⟨#[34, 98, 34]⟩, .string ⟨#[34, 195, 169, 34]⟩] 9)).alloc (.cells #[.string ⟨#[34, 34]⟩, .string ⟨#[58]⟩] 9)).heap[wr.heap.size + 1]? = some (.cells #[.string ⟨#[34, 34]⟩, .string ⟨#[58]⟩] 9 (0, 0)) := by
               have h0 := heap_alloc_new (wr.alloc (.cells #[.string ⟨#[34, 34]⟩, .string ⟨#[34, 98, 34]⟩, .string ⟨#[34, 195, 169, 34]⟩] 9)) (.cells #[.string ⟨#[34, 34]⟩, .string ⟨#[58]⟩] 9)
               rw [World.size_alloc] at h0
               exact h0
             have hbP := (HLU.out.bel.alloc (by omega) (.cells #[.string ⟨#[34, 34]⟩, .string ⟨#[34, 98, 34]⟩, .string ⟨#[34, 195, 169, 34]⟩] 9)).alloc (by simp; omega) (.cells #[.string ⟨#[34, 34]⟩, .string ⟨#[58]⟩] 9)
             refine wpList_append_lies _ rfl _ _ 24 rfl w1.heap.size 9 i0 _ 1 16 Tryz.underlying24 hi0 hz0 hz1 hz2 rfl (by omega) u10 (body.length + 1) (Jv.tks (tok 123 :: body)) (by rfl) ((hrow.alloc (.cells #[.string ⟨#[34, 34]⟩, .string ⟨#[34, 98, 34]⟩, .string ⟨#[34, 195, 169, 34]⟩] 9)).alloc (.cells #[.string ⟨#[34, 34]⟩, .string ⟨#[58]⟩] 9)) ⟨wr.heap.size + 1, 0, none⟩ 2 2 [.string ⟨#[34, 34]⟩, .string ⟨#[58]⟩] (by rfl) rfl (World.news_of_block hnP) (by intro u hu; simp only [List.mem_cons, List.not_mem_nil, or_false] at hu; rcases hu with rfl | rfl <;> rfl) (by omega) (by unfold maxLen; omega) (by omega) (by omega) _ hzP ?_; intro g4 c4 w4 hown4 hgrow4 hat4 hlt4
             have hb4 : Below w1.heap.size w1 w4 := hbP.grown ⟨hgrow4.os, hgrow4.tape, hgrow4.output, hgrow4.size, hgrow4.block⟩ (by omega) (fun k hk => (Jv.row_lt hrow k hk).1)
             have hz4 := hb4.size
             have hcall := hcl w4 (HB1.out.trans (hb4.mono HB1.out.size)))
          | (go_at_call 6; refine hcall.mono ?_; clear hcall; rintro e5 w5 ⟨v, l, sv, rfl, hrl, htw, hcn, hbn, hb5⟩
             have hl0 := Jv.tw_pos htw
             obtain ⟨gl, ccl, rfl, -, -⟩ := hrl.form hl0
             have hrow5 := Jv.row_up hown4 hb5
             have hz5 := hb5.size)
          | (at_builtin; refine wpList_append_lies _ rfl _ _ 24 rfl w1.heap.size 9 i0 _ 1 16 Tryz.underlying24 hi0 hz0 hz1 hz2 rfl (by omega) (.slice (some ⟨g4, 0, none⟩) (body.length + 1 + 2) c4) (body.length + 1 + 2) ((Jv.tks (tok 123 :: body)) ++ [.string ⟨#[34, 34]⟩, .string ⟨#[58]⟩]) (by rfl) hrow5 ⟨gl, 0, none⟩ l.length ccl (Jv.tks l) (by rfl) (by rw [Jv.tks_len]; omega) (fun j u hu => hrl.cells (g := gl) rfl j u hu) (Jv.tks_one l) hl0 (by unfold maxLen; omega) (by omega) (by omega) w5.heap.size rfl ?_; intro g6 c6 w6 hown6 hgrow6 hat6 hlt6)
          | fail)
        go_roundw
        case rel =>
          have LU6 : Tryz.Ou d w1 w6 _ _ _ := HLU.out.next (by simp) htw hcn hbn ⟨#[34, 34]⟩ (by kernel_rfl) (body.length + 1 + 2 + l.length) (by simp) (by rw [if_neg (by simp), List.nil_append, ← List.append_assoc]; exact hown6) ((hb4.trans (hb5.mono hz4)).grown ⟨hgrow6.os, hgrow6.tape, hgrow6.output, hgrow6.size, hgrow6.block⟩ (by omega) (fun k hk => (Jv.row_lt hown4 k hk).1))
          exact ⟨1, [] ++ [v], _, rfl, by omega, by omega, by simp, LU6⟩
        case measure => simp [intOf]; omega
      · obtain ⟨A3, hA3⟩ : ∃ A : Obj, A = .cells #[.string ⟨#[44]⟩] 9 := ⟨_, rfl⟩
        have q4 : (0 : Int) < (k : Int) := by omega
        have hrowA := hrow.alloc A3
        have hnA : (wr.alloc A3).heap[wr.heap.size]? = some (.cells #[.string ⟨#[44]⟩] 9 (0, 0)) := by rw [hA3]; exact heap_alloc_new wr _
        have hbA := HLU.out.bel.alloc hwz A3
        have hzA : (wr.alloc A3).heap.size = wr.heap.size + 1 := by simp
        have hpos : 0 < vs.length := by omega
        by_cases hk1 : k = 1
        · subst hk1
          go_wp2_with (first
            | (rw [← hA3]; at_builtin; refine wpList_append_lies _ rfl _ _ 24 rfl w1.heap.size 9 i0 _ 1 16 Tryz.underlying24 hi0 hz0 hz1 hz2 rfl (by omega) u10 (body.length + 1) (Jv.tks (tok 123 :: body)) (by rfl) hrowA ⟨wr.heap.size, 0, none⟩ 1 1 [.string ⟨#[44]⟩] (by rfl) rfl (World.news_of_block hnA) (by intro u hu; cases List.mem_singleton.1 hu; rfl) (by omega) (by unfold maxLen; omega) (by omega) (by omega) _ hzA ?_; intro g3 c3 w3 hown3 hgrow3 hat3 hlt3
               have hb3 : Below w1.heap.size w1 w3 := hbA.grown ⟨hgrow3.os, hgrow3.tape, hgrow3.output, hgrow3.size, hgrow3.block⟩ (by omega) (fun k hk => (Jv.row_lt hrow k hk).1)
               have hz3 := hb3.size)
            | (at_builtin
               have hzP : ((w3.alloc (.cells #[.string ⟨#[34, 34]⟩, .string ⟨#[34, 98, 34]⟩, .string ⟨#[34, 195, 169, 34]⟩] 9)).alloc (.cells #[.string ⟨#[34, 98, 34]⟩, .string ⟨#[58]⟩] 9)).heap.size = w3.heap.size + 2 := by simp
               have hnP : ((w3.alloc (.cells #[.string ⟨#[34, 34]⟩, .string ⟨#[34, 98, 34]⟩, .string ⟨#[34, 195, 169, 34]⟩] 9)).alloc (.cells #[.string ⟨#[34, 98, 34]⟩, .string ⟨#[58]⟩] 9)).heap[w3.heap.size + 1]? = some (.cells #[.string ⟨#[34, 98, 34]⟩, .string ⟨#[58]⟩] 9 (0, 0)) := by
                 have h0 := heap_alloc_new (w3.alloc (.cells #[.string ⟨#[34, 34]⟩, .string ⟨#[34, 98, 34]⟩, .string ⟨#[34, 195, 169, 34]⟩] 9)) (.cells #[.string ⟨#[34, 98, 34]⟩, .string ⟨#[58]⟩] 9)
                 rw [World.size_alloc] at h0
                 exact h0
               have hbP := (hb3.alloc (by omega) (.cells #[.string ⟨#[34, 34]⟩, .string ⟨#[34, 98, 34]⟩, .string ⟨#[34, 195, 169, 34]⟩] 9)).alloc (by simp; omega) (.cells #[.string ⟨#[34, 98, 34]⟩, .string ⟨#[58]⟩] 9)
               refine wpList_append_lies _ rfl _ _ 24 rfl w1.heap.size 9 i0 _ 1 16 Tryz.underlying24 hi0 hz0 hz1 hz2 rfl (by omega) (.slice (some ⟨g3, 0, none⟩) (body.length + 1 + 1) c3) (body.length + 1 + 1) (Jv.tks (tok 123 :: body) ++ [.string ⟨#[44]⟩]) (by rfl) ((hown3.alloc (.cells #[.string ⟨#[34, 34]⟩, .string ⟨#[34, 98, 34]⟩, .string ⟨#[34, 195, 169, 34]⟩] 9)).alloc (.cells #[.string ⟨#[34, 98, 34]⟩, .string ⟨#[58]⟩] 9)) ⟨w3.heap.size + 1, 0, none⟩ 2 2 [.string ⟨#[34, 98, 34]⟩, .string ⟨#[58]⟩] (by rfl) rfl (World.news_of_block hnP) (by intro u hu; simp only [List.mem_cons, List.not_mem_nil, or_false] at hu; rcases hu with rfl | rfl <;> rfl) (by omega) (by unfold maxLen; omega) (by omega) (by omega) _ hzP ?_; intro g4 c4 w4 hown4 hgrow4 hat4 hlt4
               have hb4 : Below w1.heap.size w1 w4 := hbP.grown ⟨hgrow4.os, hgrow4.tape, hgrow4.output, hgrow4.size, hgrow4.block⟩ (by omega) (fun k hk => (Jv.row_lt hown3 k hk).1)
               have hz4 := hb4.size
               have hcall := hcl w4 (HB1.out.trans (hb4.mono HB1.out.size)))
            | (go_at_call 6; refine hcall.mono ?_; clear hcall; rintro e5 w5 ⟨v, l, sv, rfl, hrl, htw, hcn, hbn, hb5⟩
               have hl0 := Jv.tw_pos htw
               obtain ⟨gl, ccl, rfl, -, -⟩ := hrl.form hl0
               have hrow5 := Jv.row_up hown4 hb5
               have hz5 := hb5.size)
            | (at_builtin; refine wpList_append_lies _ rfl _ _ 24 rfl w1.heap.size 9 i0 _ 1 16 Tryz.underlying24 hi0 hz0 hz1 hz2 rfl (by omega) (.slice (some ⟨g4, 0, none⟩) (body.length + 1 + 1 + 2) c4) (body.length + 1 + 1 + 2) ((Jv.tks (tok 123 :: body) ++ [.string ⟨#[44]⟩]) ++ [.string ⟨#[34, 98, 34]⟩, .string ⟨#[58]⟩]) (by rfl) hrow5 ⟨gl, 0, none⟩ l.length ccl (Jv.tks l) (by rfl) (by rw [Jv.tks_len]; omega) (fun j u hu => hrl.cells (g := gl) rfl j u hu) (Jv.tks_one l) hl0 (by unfold maxLen; omega) (by omega) (by omega) w5.heap.size rfl ?_; intro g6 c6 w6 hown6 hgrow6 hat6 hlt6)
            | fail)
          go_roundw
          case rel =>
            have LU6 : Tryz.Ou d w1 w6 _ _ _ := HLU.out.next (by omega) htw hcn hbn ⟨#[34, 98, 34]⟩ (by rw [hvs]; kernel_rfl) (body.length + 1 + 1 + 2 + l.length) (by rw [if_pos hpos]) (by rw [if_pos hpos, ← List.append_assoc, ← List.append_assoc]; exact hown6) ((hb4.trans (hb5.mono hz4)).grown ⟨hgrow6.os, hgrow6.tape, hgrow6.output, hgrow6.size, hgrow6.block⟩ (by omega) (fun k hk => (Jv.row_lt hown4 k hk).1))
            exact ⟨2, vs ++ [v], _, rfl, by omega, by omega, by simp [hvs], LU6⟩
          case measure => simp [intOf]; omega
        · have hk22 : k = 2 := by omega
          subst hk22
          go_wp2_with (first
            | (rw [← hA9]; at_builtin; refine wpList_append_lies _ rfl _ _ 24 rfl w1.heap.size 9 i0 _ 1 16 Tryz.underlying24 hi0 hz0 hz1 hz2 rfl (by omega) (.slice (some ⟨g6, 0, none⟩) (body.length + 1 + 1 + 2 + l.length) c6) (body6.length + 1) (Jv.tks (tok 123 :: body6)) (by rfl) hrow9 ⟨w6.heap.size, 0, none⟩ 1 1 [.string (tok 125)] (by rfl) rfl (World.news_of_block hn9) (by intro u hu; cases List.mem_singleton.1 hu; rfl) (by omega) (by unfold maxLen; omega) (by omega) (by omega) _ hz9 ?_; intro g9 c9 w9 hown9 hgrow9 hat9 hlt9)
            | (rw [← hA3]; at_builtin; refine wpList_append_lies _ rfl _ _ 24 rfl w1.heap.size 9 i0 _ 1 16 Tryz.underlying24 hi0 hz0 hz1 hz2 rfl (by omega) u10 (body.length + 1) (Jv.tks (tok 123 :: body)) (by rfl) hrowA ⟨wr.heap.size, 0, none⟩ 1 1 [.string ⟨#[44]⟩] (by rfl) rfl (World.news_of_block hnA) (by intro u hu; cases List.mem_singleton.1 hu; rfl) (by omega) (by unfold maxLen; omega) (by omega) (by omega) _ hzA ?_; intro g3 c3 w3 hown3 hgrow3 hat3 hlt3
               have hb3 : Below w1.heap.size w1 w3 := hbA.grown ⟨hgrow3.os, hgrow3.tape, hgrow3.output, hgrow3.size, hgrow3.block⟩ (by omega) (fun k hk => (Jv.row_lt hrow k hk).1)
               have hz3 := hb3.size)
            | (at_builtin
               have hzP : ((w3.alloc (.cells #[.string ⟨#[34, 34]⟩, .string ⟨#[34, 98, 34]⟩, .string ⟨#[34, 195, 169, 34]⟩] 9)).alloc (.cells #[.string ⟨#[34, 195, 169, 34]⟩, .string ⟨#[58]⟩] 9)).heap.size = w3.heap.size + 2 := by simp
               have hnP : ((w3.alloc (.cells #[.string ⟨#[34, 34]⟩, .string ⟨#[34, 98, 34]⟩, .string ⟨#[34, 195, 169, 34]⟩] 9)).alloc (.cells #[.string ⟨#[34, 195, 169, 34]⟩, .string ⟨#[58]⟩] 9)).heap[w3.heap.size + 1]? = some (.cells #[.string ⟨#[34, 195, 169, 34]⟩, .string ⟨#[58]⟩] 9 (0, 0)) := by
                 have h0 := heap_alloc_new (w3.alloc (.cells #[.string ⟨#[34, 34]⟩, .string ⟨#[34, 98, 34]⟩, .string ⟨#[34, 195, 169, 34]⟩] 9)) (.cells #[.string ⟨#[34, 195, 169, 34]⟩, .string ⟨#[58]⟩] 9)
                 rw [World.size_alloc] at h0
                 exact h0
               have hbP := (hb3.alloc (by omega) (.cells #[.string ⟨#[34, 34]⟩, .string ⟨#[34, 98, 34]⟩, .string ⟨#[34, 195, 169, 34]⟩] 9)).alloc (by simp; omega) (.cells #[.string ⟨#[34, 195, 169, 34]⟩, .string ⟨#[58]⟩] 9)
               refine wpList_append_lies _ rfl _ _ 24 rfl w1.heap.size 9 i0 _ 1 16 Tryz.underlying24 hi0 hz0 hz1 hz2 rfl (by omega) (.slice (some ⟨g3, 0, none⟩) (body.length + 1 + 1) c3) (body.length + 1 + 1) (Jv.tks (tok 123 :: body) ++ [.string ⟨#[44]⟩]) (by rfl) ((hown3.alloc (.cells #[.string ⟨#[34, 34]⟩, .string ⟨#[34, 98, 34]⟩, .string ⟨#[34, 195, 169, 34]⟩] 9)).alloc (.cells #[.string ⟨#[34, 195, 169, 34]⟩, .string ⟨#[58]⟩] 9)) ⟨w3.heap.size + 1, 0, none⟩ 2 2 [.string ⟨#[34, 195, 169, 34]⟩, .string ⟨#[58]⟩] (by rfl) rfl (World.news_of_block hnP) (by intro u hu; simp only [List.mem_cons, List.not_mem_nil, or_false] at hu; rcases hu with rfl | rfl <;> rfl) (by omega) (by unfold maxLen; omega) (by omega) (by omega) _ hzP ?_; intro g4 c4 w4 hown4 hgrow4 hat4 hlt4
               have hb4 : Below w1.heap.size w1 w4 := hbP.grown ⟨hgrow4.os, hgrow4.tape, hgrow4.output, hgrow4.size, hgrow4.block⟩ (by omega) (fun k hk => (Jv.row_lt hown3 k hk).1)
               have hz4 := hb4.size
               have hcall := hcl w4 (HB1.out.trans (hb4.mono HB1.out.size)))
            | (go_at_call 6; refine hcall.mono ?_; clear hcall; rintro e5 w5 ⟨v, l, sv, rfl, hrl, htw, hcn, hbn, hb5⟩
               have hl0 := Jv.tw_pos htw
               obtain ⟨gl, ccl, rfl, -, -⟩ := hrl.form hl0
               have hrow5 := Jv.row_up hown4 hb5
               have hz5 := hb5.size)
            | (at_builtin; refine wpList_append_lies _ rfl _ _ 24 rfl w1.heap.size 9 i0 _ 1 16 Tryz.underlying24 hi0 hz0 hz1 hz2 rfl (by omega) (.slice (some ⟨g4, 0, none⟩) (body.length + 1 + 1 + 2) c4) (body.length + 1 + 1 + 2) ((Jv.tks (tok 123 :: body) ++ [.string ⟨#[44]⟩]) ++ [.string ⟨#[34, 195, 169, 34]⟩, .string ⟨#[58]⟩]) (by rfl) hrow5 ⟨gl, 0, none⟩ l.length ccl (Jv.tks l) (by rfl) (by rw [Jv.tks_len]; omega) (fun j u hu => hrl.cells (g := gl) rfl j u hu) (Jv.tks_one l) hl0 (by unfold maxLen; omega) (by omega) (by omega) w5.heap.size rfl ?_; intro g6 c6 w6 hown6 hgrow6 hat6 hlt6
               have LU6 : Tryz.Ou d w1 w6 _ _ _ := HLU.out.next (by omega) htw hcn hbn ⟨#[34, 195, 169, 34]⟩ (by rw [hvs]; kernel_rfl) (body.length + 1 + 1 + 2 + l.length) (by rw [if_pos hpos]) (by rw [if_pos hpos, ← List.append_assoc, ← List.append_assoc]; exact hown6) ((hb4.trans (hb5.mono hz4)).grown ⟨hgrow6.os, hgrow6.tape, hgrow6.output, hgrow6.size, hgrow6.block⟩ (by omega) (fun k hk => (Jv.row_lt hown4 k hk).1))
               generalize body ++ ((if 0 < vs.length then [tok 44] else []) ++ _) = body6 at LU6
               have hz6 := LU6.bel.size
               have hE6 : w6.heap[w2.heap.size + 1]? = some (.cells #[.string (tok 123), .string (tok 125)] 9 (0, 0)) := (LU6.bel.block _ (by omega)).trans HE.out
               have hE7 : w6.cell? ⟨w2.heap.size + 1, 1, none⟩ = some (.string (tok 125)) := World.news_of_block hE6 1 _ rfl
               obtain ⟨A9, hA9⟩ : ∃ A : Obj, A = .cells #[.string (tok 125)] 9 := ⟨_, rfl⟩
               have hrow9 := LU6.row.alloc A9
               have hn9 : (w6.alloc A9).heap[w6.heap.size]? = some (.cells #[.string (tok 125)] 9 (0, 0)) := by rw [hA9]; exact heap_alloc_new w6 _
               have hb9 := LU6.bel.alloc hz6 A9
               have hz9 : (w6.alloc A9).heap.size = w6.heap.size + 1 := by simp
               have hbl6 : body6.length ≤ 2000 := by
                 have h7 := LU6.cn
                 have : (vs ++ [v]).length * (Jv.Cn d + 3) ≤ 3 * 603 := Nat.mul_le_mul (by simp [hvs]) (by omega)
                 omega)
            | fail)
          go_ret
          exact LU6.done (by simp [hvs]) HB1.out hown9 (hb9.grown ⟨hgrow9.os, hgrow9.tape, hgrow9.output, hgrow9.size, hgrow9.block⟩ (by omega) (fun k hk => (Jv.row_lt LU6.row k hk).1))
    · have q3 : ¬ (k : Int) < (n : Int) := by omega
      have hz6 := hLU.bel.size
      have hE6 : wr.heap[w2.heap.size + 1]? = some (.cells #[.string (tok 123), .string (tok 125)] 9 (0, 0)) := (hLU.bel.block _ (by omega)).trans HE.out
      have hE7 : wr.cell? ⟨w2.heap.size + 1, 1, none⟩ = some (.string (tok 125)) := World.news_of_block hE6 1 _ rfl
      obtain ⟨A9, hA9⟩ : ∃ A : Obj, A = .cells #[.string (tok 125)] 9 := ⟨_, rfl⟩
      have hrow9 := hLU.row.alloc A9
      have hn9 : (wr.alloc A9).heap[wr.heap.size]? = some (.cells #[.string (tok 125)] 9 (0, 0)) := by rw [hA9]; exact heap_alloc_new wr _
      have hb9 := hLU.bel.alloc hz6 A9
      have hz9 : (wr.alloc A9).heap.size = wr.heap.size + 1 := by simp
      have hCn : Jv.Cn d ≤ 600 := by
        have : d = 0 ∨ d = 1 ∨ d = 2 ∨ d = 3 := by omega
        rcases this with rfl | rfl | rfl | rfl <;> decide
      have hbl : body.length ≤ 2000 := by
        have h7 := hLU.cn
        have : vs.length * (Jv.Cn d + 3) ≤ 2 * 603 := Nat.mul_le_mul (by omega) (by omega)
        omega
      have HLU : Hid (Tryz.Ou d w1 wr u10 vs body) := hLU
      clear hLU hi h4 hE6
      go_wp2_with (first
        | (rw [← hA9]; at_builtin; refine wpList_append_lies _ rfl _ _ 24 rfl w1.heap.size 9 i0 _ 1 16 Tryz.underlying24 hi0 hz0 hz1 hz2 rfl (by omega) u10 (body.length + 1) (Jv.tks (tok 123 :: body)) (by rfl) hrow9 ⟨wr.heap.size, 0, none⟩ 1 1 [.string (tok 125)] (by rfl) rfl (World.news_of_block hn9) (by intro u hu; cases List.mem_singleton.1 hu; rfl) (by omega) (by unfold maxLen; omega) (by omega) (by omega) _ hz9 ?_; intro g9 c9 w9 hown9 hgrow9 hat9 hlt9)
        | fail)
      go_ret
      exact HLU.out.done (by omega) HB1.out hown9 (hb9.grown ⟨hgrow9.os, hgrow9.tape, hgrow9.output, hgrow9.size, hgrow9.block⟩ (by omega) (fun k hk => (Jv.row_lt HLU.out.row k hk).1))
theorem Tryz.tokens_any {rv : Value} {li : List Int} (hl : li.length ≤ 9223372036854775807) : ∀ d : Nat, d ≤ 4 → ∀ (w : World) (i : Nat), Jv.Iv w rv li → (i + 1) * 4 ^ d ≤ 1000000000000 → Calls Tryz.prog 6 #[rv, .int .i64 i, .int .i64 d] w fun e w' => Tryz.TOk d w e w'
  | 0, _, w, i, h, hi => Tryz.tokens_leaf h i 0 (by simp at hi; omega) hl (by omega) (.inl rfl)
  | d + 1, hd, w, i, h, hi => by
    have h4 : 1 ≤ 4 ^ (d + 1) := Nat.one_le_pow _ _ (by decide)
    have hi2 : i ≤ 1000000000000 := by
      have := Nat.le_mul_of_pos_right (i + 1) (by omega : 0 < 4 ^ (d + 1))
      omega
    have ih := fun (W : World) (j : Nat) (hW : Below w.heap.size w W) hj => Tryz.tokens_any hl d (by omega) W j (h.up hW) hj
    have e : ((d + 1 : Nat) : Int) = (d : Int) + 1 := by omega
    have hc : Jv.atv li i % 3 = 0 ∨ Jv.atv li i % 3 = 1 ∨ Jv.atv li i % 3 = 2 := by omega
    rcases hc with hc | hc | hc
    · exact Tryz.tokens_leaf h i (d + 1) hi2 hl hd (.inr hc)
    · rw [e]
      exact Tryz.tokens_obj h i d hi hl (by omega) hc ih
    · rw [e]
      exact Tryz.tokens_list h i d hi hl (by omega) hc ih
end Go.Proofs
