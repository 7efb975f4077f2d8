/-
  The document's 'Right'; 'right' and 'OfText' of the values.
-/
import Derived.Test.YtoibnhknkhefjaaGreatDoorJsr
import Derived.Test.YtoibnhknkhefjaaGreatDoorJrp
import Derived.Test.YtoibnhknkhefjaaGreatDoorJva
import Derived.Laws.IdiomStrings
import Derived.Laws.Cover4
namespace Go.Proofs
open Go.RowKit Go.Jv
/-- 'append' of three bytes. -/
theorem Tryz.app_three {ops : Array Oper} {rest : List Oper} {o : Oper} {a : Act} {Q : Exit → Act → World → Prop} (hgd : o.guard = none) (s x : Operand)
    (ho : o.op = .call { callee := .builtin .append, args := #[s, x], argTypes := #[39, 39] })
    (B : Nat) (v : Value) (n : Nat) (xs : List Value) (hs : a.eval s = v) (w : World) (hrow : w.ownsRow B 5 1 v n xs) (hB : B ≤ w.heap.size) (hx : a.eval x = .slice (some ⟨w.heap.size, 0, none⟩) 3 3) (hlen : n + 3 ≤ 140737488355328)
    (h : ∀ v' w', w'.ownsRow B 5 1 v' (n + 3) (xs ++ [.int .u8 239, .int .u8 191, .int .u8 189]) → (w.alloc (.cells #[.int .u8 239, .int .u8 191, .int .u8 189] 5)).grownBy w' v.ownBlock → wpList Tryz.prog ops Q rest (a.put o.dst v') w') : wpList Tryz.prog ops Q (o :: rest) a (w.alloc (.cells #[.int .u8 239, .int .u8 191, .int .u8 189] 5)) := by
  obtain ⟨i0, hi0, hz0, hz1, hz2⟩ := info_parts Tryz.info_u8
  refine wpList_append_lies _ hgd s x 39 ho B 5 i0 _ 1 1 Tryz.underlying39 hi0 hz0 hz1 hz2 rfl (by omega) v n xs hs (Jv.row_alloc hrow _) ⟨w.heap.size, 0, none⟩ 3 3 [.int .u8 239, .int .u8 191, .int .u8 189] hx rfl (World.news_of_block (cs := #[.int .u8 239, .int .u8 191, .int .u8 189]) (t := 5) (fr := (0, 0)) (heap_alloc_new w _)) (by intro y hy; simp at hy; rcases hy with rfl | rfl | rfl <;> rfl) (by omega) (by unfold maxLen; omega) (by omega) (by simp; omega) (w.heap.size + 1) (by simp) ?_
  intro g cap w' hown hg hat hlt
  exact h _ w' hown hg
/-- The state of 'Right' between two signs. -/
structure Tryz.Rg (s : ByteArray) (w : World) (p : Nat) (out : List UInt8) (bv : Value) (wr : World) : Prop where
  hp : p ≤ s.size
  rb : wr.ownsRow w.heap.size 5 1 bv out.length (Lib.byteCells out)
  bl : Below w.heap.size w wr
  lb : out.length ≤ 3 * p
  eq : out ++ RL (s.data.toList.drop p) = RL s.data.toList
set_option maxRecDepth 100000 in
set_option maxHeartbeats 4000000 in
theorem Tryz.refRight_any (s : ByteArray) (hs : s.size ≤ 40000000000000) (w : World) :
    Calls Tryz.prog 13 #[.string s] w fun en w' => en = .returned (.string (rightB s)) ∧ Below w.heap.size w w' := by
  go_enter Tryz.func13, Tryz.ntmps13
  go_wp2
  go_loopw [3, 4] (fun bv i wr => ∃ (p : Nat) (out : List UInt8), i = .int .i64 p ∧ Tryz.Rg s w p out bv wr) (fun _ i _ => s.size - (intOf i).toNat)
  case atStart => exact ⟨0, [], rfl, by omega, ⟨rfl, .inl ⟨rfl, rfl⟩⟩, Below.refl _ _, by simp, by simp⟩
  case round =>
    obtain ⟨p, out, rfl, hH⟩ := hrel
    have HH : Hid _ := hH
    have hcv1 : (convert 39 9 u3).run Tryz.prog wr = .ok (.string ⟨out.toArray⟩) wr := Tryz.gathered hH.rb
    have hlb := hH.lb
    have hsr := hH.bl.size
    have hps := hH.hp
    by_cases hlt : p < s.size
    · have q1 : (p : Int) < (s.size : Int) := by omega
      have hD := Tryz.sequence_any (s.extract p s.size) (by rw [Lib.tail_size]; omega) (by rw [Lib.tail_size]; omega) wr
      rw [Jv.sqn_tail] at hD
      have hdl : p + (Utf8.decode s p).2 ≤ s.size := Sg.decode_in s p hlt
      have hd1 := Lib.width_pos s p
      have hbad := fun h1 h2 => RL_at_bad (s := s) (p := p) hlt h1 h2
      have hok := fun h1 => RL_at_ok (s := s) (p := p) hlt h1
      have hex : (s.extract p (p + (Utf8.decode s p).2)).data.toList.length = (Utf8.decode s p).2 := by
        rw [Array.length_toList]
        show (s.extract p (p + (Utf8.decode s p).2)).size = _
        rw [ByteArray.size_extract]; omega
      have hez : (s.extract p (p + (Utf8.decode s p).2)).size = (Utf8.decode s p).2 := by rw [ByteArray.size_extract]; omega
      generalize hc : s.get! p = c at *
      generalize hd : Utf8.decode s p = D at *
      obtain ⟨r, z⟩ := D
      simp only at hdl hd1 hex hez hD hbad hok
      have hzi : (p : Int) + (z : Int) ≤ (s.size : Int) := by omega
      clear hc hd hH
      by_cases hb : 128 ≤ c.toNat ∧ z = 1
      · rw [if_pos hb] at hD
        have HF : Hid _ := hbad hb.1 hb.2
        clear hbad hok hex hez
        go_wp2_with (first
          | (go_at_call 31; refine hD.mono ?_; clear hD; rintro e1 w1 ⟨cut, rfl, rfl⟩)
          | (at_builtin; refine Tryz.app_three rfl _ _ rfl w.heap.size u3 out.length (Lib.byteCells out) rfl w1 HH.out.rb hsr rfl (by omega) ?_; intro v2 w2 hown2 hg2)
          | fail)
        go_roundw
        case rel =>
          refine ⟨p + 1, out ++ [239, 191, 189], by go_num, by omega, ?_, ?_, by simp; omega, ?_⟩
          · rw [List.length_append, Lib.byteCells_append]; exact hown2
          · exact ((HH.out.bl).alloc hsr _).grown hg2 (Nat.le_trans hsr (by simp)) (Jv.row_block HH.out.rb)
          · rw [List.append_assoc, ← HF.out]; exact HH.out.eq
        case measure => simp [intOf]; omega
      · rw [if_neg hb] at hD
        have hz0 : ¬ (z : Int) = 0 := by omega
        have HF : Hid _ := hok hb
        clear hbad hok
        go_wp2_with (first
          | (go_at_call 31; refine hD.mono ?_; clear hD; rintro e1 w1 ⟨cut, rfl, rfl⟩)
          | (at_builtin; refine Tryz.app_str2 rfl _ _ rfl w.heap.size u3 out.length (Lib.byteCells out) rfl w1 HH.out.rb hsr (s.extract p (p + z)) (by simp [Act.eval]) (by omega) ?_; intro v2 w2 hown2 hg2)
          | fail)
        go_roundw
        case rel =>
          refine ⟨p + z, out ++ (s.extract p (p + z)).data.toList, by go_num, by omega, ?_, HH.out.bl.grown hg2 hsr (Jv.row_block HH.out.rb), by rw [List.length_append, hex]; omega, ?_⟩
          · rw [List.length_append, Lib.byteCells_append, hex]; rw [hez] at hown2; exact hown2
          · rw [List.append_assoc, ← HF.out]; exact HH.out.eq
        case measure => simp [intOf]; omega
    · have q1 : ¬ (p : Int) < (s.size : Int) := by omega
      have he := hH.eq
      rw [List.drop_eq_nil_of_le (by rw [Array.length_toList]; exact Nat.le_of_not_lt hlt), RL_nil, List.append_nil] at he
      have HE : Hid _ := he
      have HB : Hid _ := hH.bl
      clear he hH
      go_wp2
      go_ret
      refine ⟨?_, HB.out⟩
      unfold rightB
      rw [← HE.out]
      rfl
/-- The signs of a text, as the conversion has them. -/
def Jv.rsF (s : ByteArray) : Nat → Nat → List Int
  | 0, _ => []
  | f + 1, p => if p < s.size then ((Utf8.decode s p).1 : Int) :: Jv.rsF s f (p + (Utf8.decode s p).2) else []
theorem Jv.rsF_eq (s : ByteArray) : ∀ (f p : Nat) (acc : Array Value), Conv.runesFrom s f p acc = acc ++ ((Jv.rsF s f p).map (Value.int .i32)).toArray := by
  intro f
  induction f with
  | zero => intro p acc; simp [Conv.runesFrom, Jv.rsF]
  | succ f ih =>
    intro p acc
    unfold Conv.runesFrom Jv.rsF
    by_cases hp : p < s.size
    · rw [if_pos hp, if_pos hp]
      show Conv.runesFrom s f (p + (Utf8.decode s p).2) (acc.push (.int .i32 (Int.ofNat (Utf8.decode s p).1))) = _
      rw [ih]
      simp
    · rw [if_neg hp, if_neg hp]; simp
theorem Jv.rsF_len (s : ByteArray) : ∀ (f p : Nat), (Jv.rsF s f p).length ≤ f := by
  intro f
  induction f with
  | zero => intro p; simp [Jv.rsF]
  | succ f ih =>
    intro p
    unfold Jv.rsF
    split
    · have := ih (p + (Utf8.decode s p).2); simp; omega
    · simp
theorem Jv.enc_eq (r : Nat) : (Utf8.encode (r : Int)).data.toList = Lib.encodeRune (r : Int) := by
  unfold Lib.encodeRune
  have b : ∀ (z : Int) (n : Nat), z = (n : Int) → z.toNat.toUInt8 = UInt8.ofNat n := fun z n h => by subst h; rfl
  by_cases c1 : r < 128
  · have v : Utf8.valid (r : Int) = true := by simp [Utf8.valid]; omega
    rw [Lib.encodeRuneZ_one (by omega) (by omega)]
    simp [Utf8.encode, v, c1]
  · by_cases c2 : r < 2048
    · have v : Utf8.valid (r : Int) = true := by simp [Utf8.valid]; omega
      rw [Lib.encodeRuneZ_two (by omega) (by omega), List.map_cons, List.map_cons, List.map_nil, b _ (192 + r / 64) (by omega), b _ (128 + r % 64) (by omega)]
      simp [Utf8.encode, v, c1, c2]
    · by_cases hb : (55296 ≤ r ∧ r ≤ 57343) ∨ 1114111 < r
      · have v : Utf8.valid (r : Int) = false := by simp [Utf8.valid]; omega
        rw [Lib.encodeRuneZ_bad (by omega)]
        simp [Utf8.encode, v, Utf8.runeError]
      · have v : Utf8.valid (r : Int) = true := by simp [Utf8.valid]; omega
        by_cases c3 : r < 65536
        · rw [Lib.encodeRuneZ_three (by omega), List.map_cons, List.map_cons, List.map_cons, List.map_nil, b _ (224 + r / 4096) (by omega), b _ (128 + r / 64 % 64) (by omega), b _ (128 + r % 64) (by omega)]
          simp [Utf8.encode, v, c1, c2, c3]
        · rw [Lib.encodeRuneZ_four (by omega) (by omega), List.map_cons, List.map_cons, List.map_cons, List.map_cons, List.map_nil, b _ (240 + r / 262144) (by omega), b _ (128 + r / 4096 % 64) (by omega), b _ (128 + r / 64 % 64) (by omega), b _ (128 + r % 64) (by omega)]
          simp [Utf8.encode, v, c1, c2, c3]
theorem Jv.foldl_enc : ∀ (ns : List Int), (∀ n ∈ ns, ∃ k : Nat, n = (k : Int)) → ∀ (a : ByteArray), (ns.foldl (fun r n => r ++ Utf8.encode n) a).data.toList = a.data.toList ++ ns.flatMap (fun n => Lib.encodeRune n)
  | [], _, a => by simp
  | n :: ns, h, a => by
    obtain ⟨k, rfl⟩ := h n (List.mem_cons_self ..)
    rw [List.foldl_cons, Jv.foldl_enc ns (fun m hm => h m (List.mem_cons_of_mem _ hm)), List.flatMap_cons, ← Jv.enc_eq]
    simp [ByteArray.data_append]
theorem Jv.rsF_nat (s : ByteArray) : ∀ (f p : Nat), ∀ n ∈ Jv.rsF s f p, ∃ k : Nat, n = (k : Int) := by
  intro f
  induction f with
  | zero => intro p n hn; simp [Jv.rsF] at hn
  | succ f ih =>
    intro p n hn
    unfold Jv.rsF at hn
    split at hn
    · rcases List.mem_cons.1 hn with rfl | hn
      · exact ⟨_, rfl⟩
      · exact ih _ n hn
    · cases hn
theorem Jv.rsF_enc (s : ByteArray) : ∀ (f p : Nat), s.size ≤ p + f → (Jv.rsF s f p).flatMap (fun n => Lib.encodeRune n) = RL (s.data.toList.drop p) := by
  intro f
  induction f with
  | zero =>
    intro p h
    rw [List.drop_eq_nil_of_le (by rw [Array.length_toList]; exact h)]
    rfl
  | succ f ih =>
    intro p h
    unfold Jv.rsF
    by_cases hp : p < s.size
    · have h1 := Lib.width_pos s p
      rw [if_pos hp, List.flatMap_cons, ih _ (by omega)]
      unfold RL
      rw [Lib.mapD_step _ _ (drop_ne hp), Lib.decodeL_drop, if_pos (by omega), List.drop_drop]
    · rw [if_neg hp, List.drop_eq_nil_of_le (by rw [Array.length_toList]; exact Nat.le_of_not_lt hp)]
      rfl
theorem Jv.runes_right (s : ByteArray) : runesBytes (Jv.rsF s s.size 0) = rightB s := by
  have h : (runesBytes (Jv.rsF s s.size 0)).data.toList = (rightB s).data.toList := by
    unfold runesBytes
    rw [Jv.foldl_enc _ (Jv.rsF_nat s _ _), Jv.rsF_enc s _ _ (by omega), rightB_list]
    rfl
  have e : (runesBytes (Jv.rsF s s.size 0)).data = (rightB s).data := by
    rw [← Array.toArray_toList (xs := (runesBytes (Jv.rsF s s.size 0)).data), h]
  exact congrArg ByteArray.mk e
/-- There and back. -/
theorem Tryz.two_conv (s : ByteArray) (hs : s.size ≤ 40000000000000) (W : World) : ∃ (v : Value) (W' : World), (convert 9 91 (.string s)).run Tryz.prog W = .ok v W' ∧ (convert 91 9 v).run Tryz.prog W' = .ok (.string (rightB s)) W' ∧ Below W.heap.size W W' := by
  have hl := Jv.rsF_len s s.size 0
  have he := Jv.rsF_eq s s.size 0 #[]
  rw [Array.empty_append] at he
  have hz : (Conv.runesFrom s s.size 0 #[]).size = (Jv.rsF s s.size 0).length := by rw [he]; simp
  have h1 := run_runes_of_string (P := Tryz.prog) W 9 91 21 s Tryz.underlying9 Tryz.underlying91 Tryz.underlying21 (by omega)
  refine ⟨_, _, h1, ?_, ((Below.refl W.heap.size W).drew).alloc (Nat.le_refl _) _⟩
  rw [hz]
  generalize grownCap W (Jv.rsF s s.size 0).length 0 21 = cap at *
  have h2 := run_convert_runes (P := Tryz.prog) (W.drew.alloc (.cells (Conv.runesFrom s s.size 0 #[] ++ Array.replicate (cap - (Jv.rsF s s.size 0).length) (.int .i32 0)) 21)) 91 9 21 ⟨W.heap.size, 0, none⟩ (Jv.rsF s s.size 0).length cap (Jv.rsF s s.size 0) (Nat.le_refl _) Tryz.underlying91 Tryz.underlying21 Tryz.underlying9 (fun j hj => by
    have hadd : (⟨W.heap.size, 0, none⟩ : Addr).add j = ⟨W.heap.size, j, none⟩ := by unfold Addr.add; split <;> simp_all
    rw [hadd]
    refine (cell_of_row _ _ j _ _ _ (heap_alloc_new W.drew _)).trans ?_
    rw [he, Array.getElem?_append_left (by simpa using hj)]
    simp [List.getD, List.getElem?_eq_getElem hj])
  rw [List.take_length, Jv.runes_right] at h2
  exact h2
set_option maxRecDepth 100000 in
set_option maxHeartbeats 4000000 in
theorem Tryz.right_any (s : ByteArray) (hs : s.size ≤ 40000000000000) (w : World) :
    Calls Tryz.prog 30 #[.string s] w fun en w' => en = .returned (.string (rightB s)) ∧ Below w.heap.size w w' := by
  have hv := Tryz.valid_any s w (by unfold maxLen; omega)
  rw [Jv.valid_d] at hv
  cases hd : Lib.validD s.data.toList with
  | true =>
    rw [hd] at hv
    rw [rightB_id hd]
    clear hd
    go_enter Tryz.func30, Tryz.ntmps30
    go_wp2_with (first | (go_at_call 44; refine hv.mono ?_; clear hv; rintro e1 w1 ⟨rfl, hb1⟩) | fail)
    go_ret
    exact ⟨rfl, hb1⟩
  | false =>
    rw [hd] at hv
    have hc := fun W => Tryz.two_conv s hs W
    clear hd
    generalize rightB s = t at *
    go_enter Tryz.func30, Tryz.ntmps30
    go_wp2_with (first | (go_at_call 44; refine hv.mono ?_; clear hv; rintro e1 w1 ⟨rfl, hb1⟩; obtain ⟨cv, cw, hc1, hc2, hc3⟩ := hc w1; clear hc) | fail)
    go_ret
    exact ⟨rfl, Jv.bthen0 hb1 hc3⟩
set_option maxRecDepth 100000 in
theorem Tryz.ofText_any (s : ByteArray) (hs : s.size ≤ 40000000000000) (w : World) :
    Calls Tryz.prog 11 #[.string s] w fun en w' => ∃ x, en = .returned (.pointer (some ⟨x, 0, none⟩)) ∧ Tryz.Tr w' (fun g => w.heap.size ≤ g) (.text (rightB s)) x ∧ w'.heap[x]? = some (.cells #[.int .i64 3, .bool false, .int .i64 0, .string (rightB s), Jv.nilS, Jv.nilS] 67 (0, 0)) ∧ Below w.heap.size w w' := by
  have hr := Tryz.right_any s hs w
  generalize rightB s = t at *
  go_enter Tryz.func11, Tryz.ntmps11
  go_wp2_with (first | (go_at_call 30; refine hr.mono ?_; clear hr; rintro e1 w1 ⟨rfl, hb1⟩) | fail)
  go_ret
  refine ⟨w1.heap.size, rfl, ?_, heap_alloc_new w1 _, hb1.alloc hb1.size _⟩
  unfold Tryz.Tr
  exact ⟨hb1.size, Jv.Vb.new w1 3 false 0 t Jv.nilS Jv.nilS _⟩
end Go.Proofs
