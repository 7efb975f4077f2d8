/-
  Laid together by packg.py of Jpa Jsq TmS.
-/
import Derived.Test.YtcakkkafanpjaaaGreatDoorQaI
import Derived.Test.YtcakkkafanpjaaaGreatDoorQaA
namespace Go.Jv
/-- What 'Path' does from a place on: the parts that are done, the bytes of the one under way. -/
def pathF (s : ByteArray) : Nat → Nat → List ByteArray → List UInt8 → R (List ByteArray)
  | 0, _, parts, part => .ok (parts ++ [⟨part.toArray⟩])
  | n + 1, p, parts, part =>
    if p < s.size then
      if 128 ≤ (s.get! p).toNat ∧ (Utf8.decode s p).2 = 1 then .bad p 10
      else if (s.get! p).toNat = 46 then pathF s n (p + (Utf8.decode s p).2) (parts ++ [⟨part.toArray⟩]) []
      else if (s.get! p).toNat ≠ 92 then pathF s n (p + (Utf8.decode s p).2) parts (part ++ (s.extract p (p + (Utf8.decode s p).2)).data.toList)
      else if p + 1 = s.size ∨ ((s.get! (p + 1)).toNat ≠ 46 ∧ (s.get! (p + 1)).toNat ≠ 92) then .bad p 25
      else pathF s n (p + 2) parts (part ++ [s.get! (p + 1)])
    else .ok (parts ++ [⟨part.toArray⟩])
theorem pathF_step (s : ByteArray) (n p : Nat) (parts : List ByteArray) (part : List UInt8) (h : p < s.size) : pathF s (n + 1) p parts part =
    if 128 ≤ (s.get! p).toNat ∧ (Utf8.decode s p).2 = 1 then .bad p 10
    else if (s.get! p).toNat = 46 then pathF s n (p + (Utf8.decode s p).2) (parts ++ [⟨part.toArray⟩]) []
    else if (s.get! p).toNat ≠ 92 then pathF s n (p + (Utf8.decode s p).2) parts (part ++ (s.extract p (p + (Utf8.decode s p).2)).data.toList)
    else if p + 1 = s.size ∨ ((s.get! (p + 1)).toNat ≠ 46 ∧ (s.get! (p + 1)).toNat ≠ 92) then .bad p 25
    else pathF s n (p + 2) parts (part ++ [s.get! (p + 1)]) := by rw [pathF, if_pos h]
theorem pathF_end (s : ByteArray) (n p : Nat) (parts : List ByteArray) (part : List UInt8) (h : ¬ p < s.size) : pathF s n p parts part = .ok (parts ++ [⟨part.toArray⟩]) := by
  cases n with
  | zero => rfl
  | succ n => rw [pathF, if_neg h]
def path (s : ByteArray) : R (List ByteArray) := if 200 < s.size then .bad 200 22 else pathF s (s.size + 1) 0 [] []
end Go.Jv
namespace Go.Proofs
open Go.RowKit Go.Jv
def Jv.txts (l : List ByteArray) : List Value := l.map Value.string
/-- Blocks of other types stay where a row grows. -/
theorem Jv.keep_grown {w w' : World} {row : Option Nat} {e : TypeId} (hg : w.grownBy w' row) (hrow : ∀ k : Nat, row = some k → ∃ cur fz, w.heap[k]? = some (.cells cur e fz)) :
    ∀ (k : Nat) c e' fz, w.heap[k]? = some (.cells c e' fz) → e' ≠ e → w'.heap[k]? = some (.cells c e' fz) := by
  intro k c e' fz hk hne
  have hlt := (Array.getElem?_eq_some_iff.1 hk).1
  rw [hg.block k hlt (fun h => ?_)]
  · exact hk
  · obtain ⟨cur, fz', h2⟩ := hrow k h.symm
    rw [hk] at h2
    simp at h2
    exact hne h2.2.1
theorem Jv.row_type {w : World} {B : Nat} {e : TypeId} {size : Nat} {v : Value} {n : Nat} {xs : List Value} (h : w.ownsRow B e size v n xs) : ∀ k : Nat, v.ownBlock = some k → ∃ cur fz, w.heap[k]? = some (.cells cur e fz) := by
  intro k hk
  rcases h.2 with ⟨rfl, _⟩ | ⟨g, cap, cur, rfl, _, h3, _⟩
  · cases hk
  · simp [Value.ownBlock] at hk
    subst hk
    exact ⟨cur, _, h3⟩
theorem Jv.row_typed {w w' : World} {B : Nat} {e : TypeId} {size : Nat} {v : Value} {n : Nat} {xs : List Value} (h : w.ownsRow B e size v n xs) (hk : ∀ (k : Nat) c fz, w.heap[k]? = some (.cells c e fz) → w'.heap[k]? = some (.cells c e fz)) : w'.ownsRow B e size v n xs := by
  refine ⟨h.1, ?_⟩
  rcases h.2 with h1 | ⟨g, cap, cur, h1, h2, h3, h4⟩
  · exact .inl h1
  · exact .inr ⟨g, cap, cur, h1, h2, hk g cur _ h3, h4⟩
/-- Another row, of another type, where a row grows. -/
theorem Jv.row_other {w w' : World} {B B' : Nat} {e e' : TypeId} {size size' : Nat} {v v' : Value} {n n' : Nat} {xs xs' : List Value} (h : w.ownsRow B e size v n xs) (h' : w.ownsRow B' e' size' v' n' xs') (hg : w.grownBy w' v.ownBlock) (hne : e' ≠ e) : w'.ownsRow B' e' size' v' n' xs' :=
  Jv.row_typed h' fun k c fz hk => Jv.keep_grown hg (Jv.row_type h) k c _ fz hk hne
/-- 'append' of a text's bytes, as the world has it. -/
theorem Tryz.app_str2 {ops : Array Oper} {rest : List Oper} {o : Oper} {a : Act} {Q : Exit → Act → World → Prop} (hgd : o.guard = none) (s x : Operand)
    (ho : o.op = .call { callee := .builtin .append, args := #[s, x], argTypes := #[22, 9] })
    (B : Nat) (v : Value) (n : Nat) (xs : List Value) (hs : a.eval s = v) (w : World) (hrow : w.ownsRow B 5 1 v n xs) (hB : B ≤ w.heap.size) (t : ByteArray) (hx : a.eval x = .string t) (hlen : n + t.size ≤ 140737488355328)
    (h : ∀ v' w', w'.ownsRow B 5 1 v' (n + t.size) (xs ++ Lib.byteCells t.data.toList) → w.grownBy w' v.ownBlock → wpList Tryz.prog ops Q rest (a.put o.dst v') w') : wpList Tryz.prog ops Q (o :: rest) a w := by
  obtain ⟨i0, hi0, hz0, hz1, hz2⟩ := info_parts Tryz.info_u8
  refine Lib.wpList_append_own_string w hgd s x 22 9 ho B 5 i0 Tryz.underlying22 Tryz.underlying9 hi0 hz0 hz1 hz2 v n xs hs hrow t hx (by unfold maxLen; omega) hlen hB ?_
  intro v' w' hown hg _
  exact h v' w' hown hg
/-- 'append' of one byte. -/
theorem Tryz.app_one2 {ops : Array Oper} {rest : List Oper} {o : Oper} {a : Act} {Q : Exit → Act → World → Prop} (hgd : o.guard = none) (s x : Operand)
    (ho : o.op = .call { callee := .builtin .append, args := #[s, x], argTypes := #[22, 22] })
    (B : Nat) (v : Value) (n : Nat) (xs : List Value) (hs : a.eval s = v) (w : World) (hrow : w.ownsRow B 5 1 v n xs) (hB : B ≤ w.heap.size) (u : Value) (hu : u.oneCell' = true) (hx : a.eval x = .slice (some ⟨w.heap.size, 0, none⟩) 1 1) (hlen : n + 1 ≤ 140737488355328)
    (h : ∀ v' w', w'.ownsRow B 5 1 v' (n + 1) (xs ++ [u]) → (w.alloc (.cells #[u] 5)).grownBy w' v.ownBlock → wpList Tryz.prog ops Q rest (a.put o.dst v') w') : wpList Tryz.prog ops Q (o :: rest) a (w.alloc (.cells #[u] 5)) := by
  obtain ⟨i0, hi0, hz0, hz1, hz2⟩ := info_parts Tryz.info_u8
  refine wpList_append_lies _ hgd s x 22 ho B 5 i0 _ 1 1 Tryz.underlying22 hi0 hz0 hz1 hz2 rfl (by omega) v n xs hs (Jv.row_alloc hrow _) ⟨w.heap.size, 0, none⟩ 1 1 [u] hx rfl (World.news_of_block (cs := #[u]) (t := 5) (fr := (0, 0)) (heap_alloc_new w _)) (by intro y hy; rw [List.mem_singleton.1 hy]; exact hu) (by omega) (by unfold maxLen; omega) (by omega) (by simp; omega) (w.heap.size + 1) (by simp) ?_
  intro g cap w' hown hg hat hlt
  exact h _ w' hown hg
/-- 'append' of one text. -/
theorem Tryz.app_txt {ops : Array Oper} {rest : List Oper} {o : Oper} {a : Act} {Q : Exit → Act → World → Prop} (hgd : o.guard = none) (s x : Operand)
    (ho : o.op = .call { callee := .builtin .append, args := #[s, x], argTypes := #[34, 34] })
    (B : Nat) (v : Value) (n : Nat) (xs : List Value) (hs : a.eval s = v) (w : World) (hrow : w.ownsRow B 9 1 v n xs) (hB : B ≤ w.heap.size) (u : ByteArray) (hx : a.eval x = .slice (some ⟨w.heap.size, 0, none⟩) 1 1) (hlen : (n + 1) * 16 ≤ 140737488355328)
    (h : ∀ v' w', w'.ownsRow B 9 1 v' (n + 1) (xs ++ [.string u]) → (w.alloc (.cells #[.string u] 9)).grownBy w' v.ownBlock → wpList Tryz.prog ops Q rest (a.put o.dst v') w') : wpList Tryz.prog ops Q (o :: rest) a (w.alloc (.cells #[.string u] 9)) := by
  obtain ⟨i0, hi0, hz0, hz1, hz2⟩ := info_parts Tryz.info_str
  refine wpList_append_lies _ hgd s x 34 ho B 9 i0 _ 1 16 Tryz.underlying34 hi0 hz0 hz1 hz2 rfl (by omega) v n xs hs (Jv.row_alloc hrow _) ⟨w.heap.size, 0, none⟩ 1 1 [.string u] hx rfl (World.news_of_block (cs := #[.string u]) (t := 9) (fr := (0, 0)) (heap_alloc_new w _)) (by intro y hy; rw [List.mem_singleton.1 hy]; rfl) (by omega) (by unfold maxLen; omega) (by omega) (by simp; omega) (w.heap.size + 1) (by simp) ?_
  intro g cap w' hown hg hat hlt
  exact h _ w' hown hg
/-- What 'Path' leaves. -/
def Tryz.PathOk (s : ByteArray) (w : World) (en : Ending) (w' : World) : Prop :=
  (∃ l v, path s = .ok l ∧ en = .returned (.tuple #[v, .nilIface]) ∧ w'.ownsRow w.heap.size 9 1 v l.length (Jv.txts l) ∧ Below w.heap.size w w') ∨
  (∃ p e y, path s = .bad p e ∧ en = .returned (.tuple #[.slice none 0 0, .iface 88 (.pointer (some ⟨y, 0, none⟩))]) ∧ w'.cell? ⟨y, 0, none⟩ = some (.int .i64 (p : Nat)) ∧ w'.cell? ⟨y, 1, none⟩ = some (.int .i64 (e : Nat)) ∧ w.heap.size ≤ y ∧ Below w.heap.size w w')
theorem Jv.bthen0 {w w1 w2 : World} (h1 : Below w.heap.size w w1) (h2 : Below w1.heap.size w1 w2) : Below w.heap.size w w2 := h1.trans (h2.mono h1.size)
theorem Tryz.path_bad {s : ByteArray} {p e : Nat} {w W : World} (h : path s = .bad p e) (hb : Below w.heap.size w W) :
    Tryz.PathOk s w (.returned (.tuple #[.slice none 0 0, .iface 88 (.pointer (some ⟨W.heap.size, 0, none⟩))])) (W.alloc (.cells #[.int .i64 (p : Nat), .int .i64 (e : Nat)] 100)) :=
  .inr ⟨p, e, W.heap.size, h, rfl, cell_of_row _ _ 0 _ _ _ (heap_alloc_new W _), cell_of_row _ _ 1 _ _ _ (heap_alloc_new W _), hb.size, hb.alloc hb.size _⟩
/-- The state of 'Path' between two signs. -/
structure Tryz.Ph (s : ByteArray) (w : World) (n p : Nat) (parts : List ByteArray) (part : List UInt8) (pv bv : Value) (wr : World) : Prop where
  hp : p ≤ s.size
  hn : s.size + 1 ≤ p + n
  rp : wr.ownsRow w.heap.size 9 1 pv parts.length (Jv.txts parts)
  rb : wr.ownsRow w.heap.size 5 1 bv part.length (Lib.byteCells part)
  bl : Below w.heap.size w wr
  lp : parts.length ≤ p
  lb : part.length ≤ p
  eq : pathF s n p parts part = pathF s (s.size + 1) 0 [] []
/-- A part ends. -/
theorem Tryz.Ph.part {s : ByteArray} {w : World} {n p z : Nat} {parts : List ByteArray} {part : List UInt8} {pv bv pv' : Value} {wr w1 w2 : World} (h : Tryz.Ph s w (n + 1) p parts part pv bv wr) (hb1 : Below wr.heap.size wr w1) (hz1 : 1 ≤ z) (hz2 : p + z ≤ s.size)
    (hrow : w2.ownsRow w.heap.size 9 1 pv' (parts.length + 1) (Jv.txts parts ++ [.string ⟨part.toArray⟩])) (hg : (w1.alloc (.cells #[.string ⟨part.toArray⟩] 9)).grownBy w2 pv.ownBlock)
    (he : pathF s (n + 1) p parts part = pathF s n (p + z) (parts ++ [⟨part.toArray⟩]) []) : Tryz.Ph s w n (p + z) (parts ++ [⟨part.toArray⟩]) [] pv' (.slice none 0 0) w2 := by
  have b1 := Jv.bthen0 h.bl hb1
  refine ⟨hz2, by have := h.hn; omega, ?_, ⟨rfl, .inl ⟨rfl, rfl⟩⟩, b1.trans (Jv.below_grown hg b1.size (Jv.row_block h.rp)), by have := h.lp; simp; omega, by simp, he.symm.trans h.eq⟩
  have e1 : (parts ++ [(⟨part.toArray⟩ : ByteArray)]).length = parts.length + 1 := by simp
  have e2 : Jv.txts (parts ++ [(⟨part.toArray⟩ : ByteArray)]) = Jv.txts parts ++ [.string ⟨part.toArray⟩] := by simp [Jv.txts]
  rw [e1, e2]; exact hrow
/-- Bytes more. -/
theorem Tryz.Ph.more {s : ByteArray} {w : World} {n p z : Nat} {parts : List ByteArray} {part : List UInt8} {new : List UInt8} {pv bv bv' : Value} {wr w1 w2 : World} (h : Tryz.Ph s w (n + 1) p parts part pv bv wr) (hb1 : Below wr.heap.size wr w1) (hz1 : 1 ≤ z) (hz2 : p + z ≤ s.size) (hl : new.length ≤ z)
    (hrow : w2.ownsRow w.heap.size 5 1 bv' (part.length + new.length) (Lib.byteCells part ++ Lib.byteCells new)) (hg : w1.grownBy w2 bv.ownBlock)
    (he : pathF s (n + 1) p parts part = pathF s n (p + z) parts (part ++ new)) : Tryz.Ph s w n (p + z) parts (part ++ new) pv bv' w2 := by
  have b1 := Jv.bthen0 h.bl hb1
  have rp1 := Jv.row_below h.rp hb1
  have rb1 := Jv.row_below h.rb hb1
  refine ⟨hz2, by have := h.hn; omega, Jv.row_other rb1 rp1 hg (by decide), ?_, b1.grown hg b1.size (Jv.row_block h.rb), by have := h.lp; omega, by have := h.lb; simp; omega, he.symm.trans h.eq⟩
  rw [List.length_append, Lib.byteCells_append]; exact hrow
set_option maxRecDepth 100000 in
set_option maxHeartbeats 4000000 in
theorem Tryz.path_any (s : ByteArray) (hs : s.size ≤ 140737488355328) (w : World) (hT : Tryz.Tb w) :
    Calls Tryz.prog 26 #[.string s] w fun en w' => Tryz.PathOk s w en w' := by
  by_cases h200 : 200 < s.size
  · have h1 : (200 : Int) < (s.size : Int) := by omega
    have hP : path s = .bad 200 22 := by unfold path; rw [if_pos h200]
    have HP : Hid (path s = .bad 200 22) := hP
    clear hP
    clear h200
    go_enter Tryz.func26, Tryz.ntmps26
    go_wp2_with (first | (go_at_call 53; refine (Tryz.fault_any _ _ _).mono ?_; rintro e9 w9 ⟨rfl, rfl⟩) | fail)
    go_ret2
    exact Tryz.path_bad HP.out (Below.refl _ _)
  · have h1 : ¬ (200 : Int) < (s.size : Int) := by omega
    have hP : path s = pathF s (s.size + 1) 0 [] [] := by unfold path; rw [if_neg h200]
    have HP : Hid _ := hP
    have HT : Hid _ := hT
    clear hP hT
    go_enter Tryz.func26, Tryz.ntmps26
    go_wp2
    go_loopw [4, 5, 6] (fun pv bv i wr => ∃ (n p : Nat) (parts : List ByteArray) (part : List UInt8), i = .int .i64 p ∧ Tryz.Ph s w n p parts part pv bv wr) (fun _ _ i _ => s.size - (intOf i).toNat)
    case atStart => exact ⟨s.size + 1, 0, [], [], rfl, by omega, by omega, ⟨rfl, .inl ⟨rfl, rfl⟩⟩, ⟨rfl, .inl ⟨rfl, rfl⟩⟩, Below.refl _ _, by simp, by simp, rfl⟩
    case round =>
      obtain ⟨n, p, parts, part, rfl, hH⟩ := hrel
      have HH : Hid _ := hH
      have hcv : ∀ W, Below wr.heap.size wr W → (convert 22 9 u5).run Tryz.prog W = .ok (.string ⟨part.toArray⟩) W := fun W hW => Tryz.gathered (Jv.row_below hH.rb hW)
      have HCV : Hid _ := hcv
      have hlp := hH.lp
      have hlb := hH.lb
      have hsr := hH.bl.size
      have hps := hH.hp
      clear hcv
      by_cases hlt : p < s.size
      · obtain ⟨m, rfl⟩ : ∃ m, n = m + 1 := ⟨n - 1, by have := hH.hn; omega⟩
        have q1 : (p : Int) < (s.size : Int) := by omega
        have hD := Tryz.utf8_DecodeRuneInString (s.extract p s.size)
        rw [Jv.decodeGo_tail s p hlt] at hD
        have hdl : p + (Utf8.decode s p).2 ≤ s.size := Sg.decode_in s p hlt
        have hd1 := Lib.width_pos s p
        have hg := Jv.get_eq s p hlt
        have hF := pathF_step s m p parts part hlt
        have HT2 : Hid (Tryz.Tb wr) := HT.out.below hH.bl HT.out.size
        have hex : (s.extract p (p + (Utf8.decode s p).2)).data.toList.length = (Utf8.decode s p).2 := by
          rw [Array.length_toList]
          show (s.extract p (p + (Utf8.decode s p).2)).size = _
          rw [ByteArray.size_extract]; omega
        have hez : (s.extract p (p + (Utf8.decode s p).2)).size = (Utf8.decode s p).2 := by rw [ByteArray.size_extract]; omega
        generalize hc : s.get! p = c at *
        generalize hd : Utf8.decode s p = D at *
        obtain ⟨r, z⟩ := D
        simp only at hdl hd1 hF hex hez hD
        have hzi : (p : Int) + (z : Int) ≤ (s.size : Int) := by omega
        clear hc hd hH
        by_cases h128 : 128 ≤ c.toNat
        · have b128 : (128 : Int) ≤ (c.toNat : Int) := by omega
          have b46 : ¬ (c.toNat : Int) = 46 := by omega
          have b92 : ¬ (c.toNat : Int) = 92 := by omega
          by_cases hz : z = 1
          · rw [if_pos ⟨h128, hz⟩] at hF
            have HF : Hid _ := hF
            subst hz
            clear hF
            go_wp2_with (first
              | (go_at_call 66; refine (hD _ HT2.out.here.u8).mono ?_; clear hD; rintro e1 w1 ⟨rfl, hb1⟩)
              | (go_at_call 53; refine (Tryz.fault_any _ _ _).mono ?_; rintro e9 w9 ⟨rfl, rfl⟩)
              | fail)
            go_ret2
            exact Tryz.path_bad (HP.out.trans (HH.out.eq.symm.trans HF.out)) (Jv.bthen0 HH.out.bl hb1)
          · rw [if_neg (fun h => hz h.2), if_neg (by omega), if_pos (by omega)] at hF
            have HF : Hid _ := hF
            have hz' : ¬ (z : Int) = 1 := by omega
            clear hF hz
            go_wp2_with (first
              | (go_at_call 66; refine (hD _ HT2.out.here.u8).mono ?_; clear hD; rintro e1 w1 ⟨rfl, hb1⟩)
              | (at_builtin; refine Tryz.app_str2 rfl _ _ rfl w.heap.size _ part.length (Lib.byteCells part) rfl w1 (Jv.row_below HH.out.rb hb1) (Nat.le_trans hsr hb1.size) (s.extract p (p + z)) (by simp [Act.eval]) (by omega) ?_; intro v2 w2 hown2 hg2)
              | fail)
            go_roundw
            case rel => exact ⟨m, p + z, parts, part ++ (s.extract p (p + z)).data.toList, by go_num, HH.out.more hb1 hd1 hdl (by omega) (by rw [hez] at hown2; rw [hex]; exact hown2) hg2 HF.out⟩
            case measure => simp [intOf]; omega
        · have b128 : ¬ (128 : Int) ≤ (c.toNat : Int) := by omega
          rw [if_neg (fun h => h128 h.1)] at hF
          by_cases h46 : c.toNat = 46
          · have b46 : (c.toNat : Int) = 46 := by omega
            rw [if_pos h46] at hF
            have HF : Hid _ := hF
            clear hF hex hez
            go_wp2_with (first
              | (go_at_call 66; refine (hD _ HT2.out.here.u8).mono ?_; clear hD; rintro e1 w1 ⟨rfl, hb1⟩; have hcv1 := HCV.out _ hb1)
              | (at_builtin; refine Tryz.app_txt rfl _ _ rfl w.heap.size _ parts.length (Jv.txts parts) rfl w1 (Jv.row_below HH.out.rp hb1) (Nat.le_trans hsr hb1.size) ⟨part.toArray⟩ rfl (by omega) ?_; intro v2 w2 hown2 hg2)
              | fail)
            go_roundw
            case rel => exact ⟨m, p + z, parts ++ [⟨part.toArray⟩], [], by go_num, HH.out.part hb1 hd1 hdl hown2 hg2 HF.out⟩
            case measure => simp [intOf]; omega
          · have b46 : ¬ (c.toNat : Int) = 46 := by omega
            rw [if_neg h46] at hF
            by_cases h92 : c.toNat = 92
            · have b92 : (c.toNat : Int) = 92 := by omega
              rw [if_neg (by omega)] at hF
              by_cases hend : p + 1 = s.size
              · rw [if_pos (.inl hend)] at hF
                have HF : Hid _ := hF
                have bend : ((p : Int) + 1 == (s.size : Int)) = true := beq_iff_eq.2 (by omega)
                have bend' : (p : Int) + 1 = (s.size : Int) := by omega
                clear hF hex hez
                go_wp2_with (first
                  | (go_at_call 66; refine (hD _ HT2.out.here.u8).mono ?_; clear hD; rintro e1 w1 ⟨rfl, hb1⟩; have hcv1 := HCV.out _ hb1)
                  | (go_at_call 53; refine (Tryz.fault_any _ _ _).mono ?_; rintro e9 w9 ⟨rfl, rfl⟩)
                  | fail)
                go_ret2
                exact Tryz.path_bad (HP.out.trans (HH.out.eq.symm.trans HF.out)) (Jv.bthen0 HH.out.bl hb1)
              · have bend : ((p : Int) + 1 == (s.size : Int)) = false := by rw [beq_eq_false_iff_ne]; omega
                have bend' : ¬ (p : Int) + 1 = (s.size : Int) := by omega
                have bl1 : (p : Int) + 1 < (s.size : Int) := by omega
                have hg1 := Jv.get_eq s (p + 1) (by omega)
                generalize s.get! (p + 1) = d at *
                by_cases d46 : d.toNat = 46
                · have c46 : (d.toNat : Int) = 46 := by omega
                  rw [if_neg (fun h => h.elim hend (fun h => h.1 d46))] at hF
                  have HF : Hid _ := hF
                  clear hF hex hez
                  go_wp2_with (first
                    | (go_at_call 66; refine (hD _ HT2.out.here.u8).mono ?_; clear hD; rintro e1 w1 ⟨rfl, hb1⟩; have hcv1 := HCV.out _ hb1)
                    | (at_builtin; refine Tryz.app_one2 rfl _ _ rfl w.heap.size _ part.length (Lib.byteCells part) rfl w1 (Jv.row_below HH.out.rb hb1) (Nat.le_trans hsr hb1.size) (.int .u8 46) rfl rfl (by omega) ?_; intro v2 w2 hown2 hg2)
                    | fail)
                  go_roundw
                  case rel => exact ⟨m, p + 2, parts, part ++ [d], by go_num, HH.out.more (Jv.bthen0 (Below.refl _ _) (hb1.alloc hb1.size _)) (by omega) (by omega) (by simp) (by rw [show Lib.byteCells [d] = [.int .u8 46] by simp [Lib.byteCells, d46]]; exact hown2) hg2 HF.out⟩
                  case measure => simp [intOf]; omega
                · have c46 : ¬ (d.toNat : Int) = 46 := by omega
                  by_cases d92 : d.toNat = 92
                  · have c92 : (d.toNat : Int) = 92 := by omega
                    rw [if_neg (fun h => h.elim hend (fun h => h.2 d92))] at hF
                    have HF : Hid _ := hF
                    clear hF hex hez
                    go_wp2_with (first
                      | (go_at_call 66; refine (hD _ HT2.out.here.u8).mono ?_; clear hD; rintro e1 w1 ⟨rfl, hb1⟩; have hcv1 := HCV.out _ hb1)
                      | (at_builtin; refine Tryz.app_one2 rfl _ _ rfl w.heap.size _ part.length (Lib.byteCells part) rfl w1 (Jv.row_below HH.out.rb hb1) (Nat.le_trans hsr hb1.size) (.int .u8 92) rfl rfl (by omega) ?_; intro v2 w2 hown2 hg2)
                      | fail)
                    go_roundw
                    case rel => exact ⟨m, p + 2, parts, part ++ [d], by go_num, HH.out.more (Jv.bthen0 (Below.refl _ _) (hb1.alloc hb1.size _)) (by omega) (by omega) (by simp) (by rw [show Lib.byteCells [d] = [.int .u8 92] by simp [Lib.byteCells, d92]]; exact hown2) hg2 HF.out⟩
                    case measure => simp [intOf]; omega
                  · have c92 : ¬ (d.toNat : Int) = 92 := by omega
                    have c92b : ((d.toNat : Int) != 92) = true := by simp; omega
                    have c46b : ((d.toNat : Int) != 46) = true := by simp; omega
                    rw [if_pos (.inr ⟨d46, d92⟩)] at hF
                    have HF : Hid _ := hF
                    clear hF hex hez
                    go_wp2_with (first
                      | (go_at_call 66; refine (hD _ HT2.out.here.u8).mono ?_; clear hD; rintro e1 w1 ⟨rfl, hb1⟩; have hcv1 := HCV.out _ hb1)
                      | (go_at_call 53; refine (Tryz.fault_any _ _ _).mono ?_; rintro e9 w9 ⟨rfl, rfl⟩)
                      | fail)
                    go_ret2
                    exact Tryz.path_bad (HP.out.trans (HH.out.eq.symm.trans HF.out)) (Jv.bthen0 HH.out.bl hb1)
            · have b92 : ¬ (c.toNat : Int) = 92 := by omega
              rw [if_pos h92] at hF
              have HF : Hid _ := hF
              clear hF
              go_wp2_with (first
                | (go_at_call 66; refine (hD _ HT2.out.here.u8).mono ?_; clear hD; rintro e1 w1 ⟨rfl, hb1⟩; have hcv1 := HCV.out _ hb1)
                | (at_builtin; refine Tryz.app_str2 rfl _ _ rfl w.heap.size _ part.length (Lib.byteCells part) rfl w1 (Jv.row_below HH.out.rb hb1) (Nat.le_trans hsr hb1.size) (s.extract p (p + z)) (by simp [Act.eval]) (by omega) ?_; intro v2 w2 hown2 hg2)
                | fail)
              go_roundw
              case rel => exact ⟨m, p + z, parts, part ++ (s.extract p (p + z)).data.toList, by go_num, HH.out.more hb1 hd1 hdl (by omega) (by rw [hez] at hown2; rw [hex]; exact hown2) hg2 HF.out⟩
              case measure => simp [intOf]; omega
      · have q1 : ¬ (p : Int) < (s.size : Int) := by omega
        have HF : Hid _ := pathF_end s n p parts part hlt
        have hcv1 := HCV.out _ (Below.refl _ _)
        clear hH
        go_wp2_with (first
          | (at_builtin; refine Tryz.app_txt rfl _ _ rfl w.heap.size u4 parts.length (Jv.txts parts) rfl wr HH.out.rp hsr ⟨part.toArray⟩ rfl (by omega) ?_; intro v2 w2 hown2 hg2)
          | fail)
        go_ret2
        refine .inl ⟨parts ++ [⟨part.toArray⟩], v2, HP.out.trans (HH.out.eq.symm.trans HF.out), rfl, ?_, HH.out.bl.trans (Jv.below_grown hg2 hsr (Jv.row_block HH.out.rp))⟩
        have e1 : (parts ++ [(⟨part.toArray⟩ : ByteArray)]).length = parts.length + 1 := by simp
        have e2 : Jv.txts (parts ++ [(⟨part.toArray⟩ : ByteArray)]) = Jv.txts parts ++ [.string ⟨part.toArray⟩] := by simp [Jv.txts]
        rw [e1, e2]; exact hown2
end Go.Proofs
namespace Go.Jv
def sqL (b0 : Nat) : Nat := if b0 ≤ 223 then 2 else if b0 ≤ 239 then 3 else 4
def sqLo (b0 : Nat) : Nat := if b0 = 224 then 160 else if b0 = 240 then 144 else 128
def sqHi (b0 : Nat) : Nat := if b0 = 237 then 159 else if b0 = 244 then 143 else 191
/-- The bytes behind the first. -/
def sqB (b0 b : Nat) (j : Nat) : Prop := if j = 1 then sqLo b0 ≤ b ∧ b ≤ sqHi b0 else 128 ≤ b ∧ b ≤ 191
theorem sq_good (n b0 b1 b2 b3 : Nat) (h0 : 194 ≤ b0) (h1 : b0 ≤ 244) (hn : sqL b0 ≤ n) (c1 : sqLo b0 ≤ b1 ∧ b1 ≤ sqHi b0) (c2 : 3 ≤ sqL b0 → 128 ≤ b2 ∧ b2 ≤ 191) (c3 : 4 ≤ sqL b0 → 128 ≤ b3 ∧ b3 ≤ 191) :
    (Lib.decodeN n b0 b1 b2 b3).2 = sqL b0 := by
  unfold sqL at *
  unfold sqLo sqHi at c1
  unfold Lib.decodeN
  by_cases a1 : b0 ≤ 223
  · rw [if_pos a1] at *
    repeat' split at c1
    all_goals
      repeat' split
      all_goals first | rfl | (exfalso; omega)
  · rw [if_neg a1] at *
    by_cases a2 : b0 ≤ 239
    · rw [if_pos a2] at *
      have d2 := c2 (by omega)
      repeat' split at c1
      all_goals
        repeat' split
        all_goals first | rfl | (exfalso; omega)
    · rw [if_neg a2] at *
      have d2 := c2 (by omega)
      have d3 := c3 (by omega)
      repeat' split at c1
      all_goals
        repeat' split
        all_goals first | rfl | (exfalso; omega)
theorem sq_bad (n b0 b1 b2 b3 : Nat) (h0 : 194 ≤ b0) (h1 : b0 ≤ 244) (l1 : b1 < 256) (l2 : b2 < 256) (l3 : b3 < 256) (h : n < sqL b0 ∨ ¬ (sqLo b0 ≤ b1 ∧ b1 ≤ sqHi b0) ∨ (3 ≤ sqL b0 ∧ ¬ (128 ≤ b2 ∧ b2 ≤ 191)) ∨ (4 ≤ sqL b0 ∧ ¬ (128 ≤ b3 ∧ b3 ≤ 191))) :
    (Lib.decodeN n b0 b1 b2 b3).2 = 1 := by
  unfold sqL sqLo sqHi at h
  unfold Lib.decodeN
  by_cases a1 : b0 ≤ 223
  · rw [if_pos a1] at h
    repeat' split at h
    all_goals
      repeat' split
      all_goals first | rfl | (exfalso; omega)
  · rw [if_neg a1] at h
    by_cases a2 : b0 ≤ 239
    · rw [if_pos a2] at h
      repeat' split at h
      all_goals
        repeat' split
        all_goals first | rfl | (exfalso; omega)
    · rw [if_neg a2] at h
      repeat' split at h
      all_goals
        repeat' split
        all_goals first | rfl | (exfalso; omega)
theorem sq_none (n b0 b1 b2 b3 : Nat) (h0 : 128 ≤ b0) (l0 : b0 < 256) (h : b0 < 194 ∨ 244 < b0) : (Lib.decodeN n b0 b1 b2 b3).2 = 1 := by
  unfold Lib.decodeN
  repeat' split
  all_goals first | rfl | (exfalso; omega)
/-- The length, as the document's function tells it. -/
def sqn (u : ByteArray) : Nat := if 128 ≤ (u.get! 0).toNat ∧ (Utf8.decode u 0).2 = 1 then 0 else (Utf8.decode u 0).2
/-- Where the document's loop over the bytes of a sequence stands. -/
structure SqI (u : ByteArray) (i : Nat) : Prop where
  lo : 194 ≤ (u.get! 0).toNat
  hi : (u.get! 0).toNat ≤ 244
  one : 1 ≤ i
  most : i ≤ sqL (u.get! 0).toNat
  size : i ≤ u.size
  all : ∀ j, 1 ≤ j → j < i → sqB (u.get! 0).toNat (u.get! j).toNat j
def sqLo2 (b0 i : Nat) : Nat := if i = 1 then sqLo b0 else 128
def sqHi2 (b0 i : Nat) : Nat := if i = 1 then sqHi b0 else 191
theorem sqB_iff (b0 b i : Nat) : sqB b0 b i ↔ sqLo2 b0 i ≤ b ∧ b ≤ sqHi2 b0 i := by
  unfold sqB sqLo2 sqHi2
  by_cases h : i = 1
  · simp [h]
  · simp [h]
theorem sqL_bound (b0 : Nat) : 2 ≤ sqL b0 ∧ sqL b0 ≤ 4 := by unfold sqL; split <;> (try split) <;> omega
theorem sq_done {u : ByteArray} {i : Nat} (h : SqI u i) (hi : i = sqL (u.get! 0).toNat) : sqn u = sqL (u.get! 0).toNat := by
  have hb := sqL_bound (u.get! 0).toNat
  have c1 := h.all 1 (by omega) (by omega)
  have h1 : (Utf8.decode u 0).2 = sqL (u.get! 0).toNat := by
    rw [Lib.decode_at]
    refine sq_good _ _ _ _ _ h.lo h.hi (by have := h.size; omega) (by simpa [sqB] using c1) (fun h3 => ?_) (fun h4 => ?_)
    · have := h.all 2 (by omega) (by omega); simpa [sqB] using this
    · have := h.all 3 (by omega) (by omega); simpa [sqB] using this
  unfold sqn
  rw [h1, if_neg (by omega)]
theorem sq_zero {u : ByteArray} (h0 : 128 ≤ (u.get! 0).toNat) (h1 : (Utf8.decode u 0).2 = 1) : sqn u = 0 := by
  unfold sqn; rw [if_pos ⟨h0, h1⟩]
theorem sq_short {u : ByteArray} {i : Nat} (h : SqI u i) (hi : i < sqL (u.get! 0).toNat) (hn : i = u.size) : sqn u = 0 := by
  refine sq_zero (by have := h.lo; omega) ?_
  rw [Lib.decode_at]
  exact sq_bad _ _ _ _ _ h.lo h.hi (UInt8.toNat_lt _) (UInt8.toNat_lt _) (UInt8.toNat_lt _) (.inl (by omega))
theorem sq_wrong {u : ByteArray} {i : Nat} (h : SqI u i) (hi : i < sqL (u.get! 0).toNat) (hw : ¬ sqB (u.get! 0).toNat (u.get! i).toNat i) : sqn u = 0 := by
  refine sq_zero (by have := h.lo; omega) ?_
  rw [Lib.decode_at]
  refine sq_bad _ _ _ _ _ h.lo h.hi (UInt8.toNat_lt _) (UInt8.toNat_lt _) (UInt8.toNat_lt _) (.inr ?_)
  have hb := sqL_bound (u.get! 0).toNat
  have ho := h.one
  have h3 : i = 1 ∨ i = 2 ∨ i = 3 := by omega
  rcases h3 with rfl | rfl | rfl
  · left; simpa [sqB] using hw
  · right; left; exact ⟨by omega, by simpa [sqB] using hw⟩
  · right; right; exact ⟨by omega, by simpa [sqB] using hw⟩
theorem sq_ascii {u : ByteArray} (h : (u.get! 0).toNat < 128) : sqn u = 1 := by
  unfold sqn
  rw [if_neg (by omega), Lib.decode_at]
  simp [Lib.decodeN, h]
theorem sq_other {u : ByteArray} (h0 : 128 ≤ (u.get! 0).toNat) (h : (u.get! 0).toNat < 194 ∨ 244 < (u.get! 0).toNat) : sqn u = 0 := by
  refine sq_zero h0 ?_
  rw [Lib.decode_at]
  exact sq_none _ _ _ _ _ h0 (UInt8.toNat_lt _) h
theorem SqI.next {u : ByteArray} {i : Nat} (h : SqI u i) (hi : i < sqL (u.get! 0).toNat) (hn : i < u.size) (hb : sqB (u.get! 0).toNat (u.get! i).toNat i) : SqI u (i + 1) :=
  ⟨h.lo, h.hi, by omega, hi, hn, fun j h1 h2 => by
    by_cases hj : j = i
    · subst hj; exact hb
    · exact h.all j h1 (by omega)⟩
end Go.Jv
namespace Go.Jv
/-- Are the bytes at hand enough to tell? -/
def sqF (u : ByteArray) : Bool := fullN u.size (u.get! 0).toNat (u.get! 1).toNat (u.get! 2).toNat
theorem first_tab : ∀ a : Fin 256, (194 ≤ a.val → a.val ≤ 244 → Lib.firstT a.val % 8 = sqL a.val ∧ Lib.accLo (Lib.firstT a.val / 16) = sqLo a.val ∧ Lib.accHi (Lib.firstT a.val / 16) = sqHi a.val) ∧ (128 ≤ a.val → (a.val < 194 ∨ 244 < a.val) → Lib.firstT a.val % 8 = 1) := by decide +kernel
theorem sqF_short {u : ByteArray} {i : Nat} (h : SqI u i) (hi : i < sqL (u.get! 0).toNat) (hn : i = u.size) : sqF u = false := by
  obtain ⟨e1, e2, e3⟩ := (first_tab ⟨(u.get! 0).toNat, UInt8.toNat_lt _⟩).1 h.lo h.hi
  simp only at e1 e2 e3
  unfold sqF fullN
  rw [e1, e2, e3, if_neg (by omega), if_neg, if_neg]
  · rintro ⟨h1, h2⟩
    have c2 := h.all 2 (by omega) (by omega)
    simp only [sqB] at c2
    rw [if_neg (by decide)] at c2
    omega
  · rintro ⟨h1, h2⟩
    have c1 := h.all 1 (by omega) (by omega)
    simp only [sqB, if_true] at c1
    omega
theorem sqF_wrong {u : ByteArray} {i : Nat} (h : SqI u i) (hi : i < sqL (u.get! 0).toNat) (hn : i < u.size) (hw : ¬ sqB (u.get! 0).toNat (u.get! i).toNat i) : sqF u = true := by
  obtain ⟨e1, e2, e3⟩ := (first_tab ⟨(u.get! 0).toNat, UInt8.toNat_lt _⟩).1 h.lo h.hi
  simp only at e1 e2 e3
  have hb := sqL_bound (u.get! 0).toNat
  have ho := h.one
  unfold sqF fullN
  rw [e1, e2, e3]
  split
  · rfl
  · split
    · rfl
    · rename_i n1 n2
      have h3 : i = 1 ∨ i = 2 ∨ i = 3 := by omega
      rcases h3 with rfl | rfl | rfl
      · exfalso
        apply n2
        refine ⟨hn, ?_⟩
        simp only [sqB, if_true] at hw
        omega
      · rw [if_pos]
        refine ⟨hn, ?_⟩
        simp only [sqB] at hw
        rw [if_neg (by decide)] at hw
        omega
      · exfalso; omega
theorem sqF_other {u : ByteArray} (hn : 0 < u.size) (h0 : 128 ≤ (u.get! 0).toNat) (h : (u.get! 0).toNat < 194 ∨ 244 < (u.get! 0).toNat) : sqF u = true := by
  have e1 := (first_tab ⟨(u.get! 0).toNat, UInt8.toNat_lt _⟩).2 h0 h
  simp only at e1
  unfold sqF fullN
  rw [e1, if_pos (by omega)]
end Go.Jv
namespace Go.Proofs
open Go.RowKit Go.Jv
/-- What 'Sequence' leaves. -/
def Tryz.SqOk2 (n : Nat) (f : Bool) (w : World) (en : Ending) (w' : World) : Prop := en = .returned (.tuple #[.int .i64 n, .bool (decide (n = 0) && !f)]) ∧ w' = w
set_option maxRecDepth 100000 in
set_option maxHeartbeats 8000000 in
theorem Tryz.sequence2_any (u : ByteArray) (h0 : 0 < u.size) (hs : u.size ≤ 140737488355328) (w : World) :
    Calls Tryz.prog 67 #[.string u] w fun en w' => Tryz.SqOk2 (sqn u) (sqF u) w en w' := by
  have hg := Jv.get_eq u 0 h0
  have q0 : (0 : Int) < (u.size : Int) := by omega
  have hne : u.toList.isEmpty = false := by
    rw [Lib.toList_data]
    cases h : u.data.toList with
    | nil => exact absurd h0 (by rw [Lib.size_eq, h]; simp)
    | cons _ _ => rfl
  have hbl : (u.get! 0).toNat < 256 := UInt8.toNat_lt _
  by_cases c128 : (u.get! 0).toNat < 128
  · have HS : Hid (sqn u = 1) := sq_ascii c128
    generalize u.get! 0 = c at *
    have hwc : wrap64 (c.toNat : Int) = (c.toNat : Int) := by unfold wrap64; omega
    have b128 : (c.toNat : Int) < 128 := by omega
    go_enter Tryz.func67, Tryz.ntmps67
    go_wp2
    go_ret2
    exact ⟨by rw [HS.out]; rfl, rfl⟩
  · by_cases hout : (u.get! 0).toNat < 194 ∨ 244 < (u.get! 0).toNat
    · have HS : Hid (sqn u = 0) := sq_other (by omega) hout
      have HF : Hid (sqF u = true) := sqF_other h0 (by omega) hout
      generalize u.get! 0 = c at *
      have hwc : wrap64 (c.toNat : Int) = (c.toNat : Int) := by unfold wrap64; omega
      have b128 : ¬ (c.toNat : Int) < 128 := by omega
      have b223 : (194 : Int) ≤ (c.toNat : Int) → ¬ (c.toNat : Int) ≤ 223 := by omega
      by_cases b194 : (194 : Int) ≤ (c.toNat : Int)
      · have f223 : ¬ (c.toNat : Int) ≤ 223 := by omega
        have f224 : (224 : Int) ≤ (c.toNat : Int) := by omega
        have f239 : ¬ (c.toNat : Int) ≤ 239 := by omega
        have f240 : (240 : Int) ≤ (c.toNat : Int) := by omega
        have f244 : ¬ (c.toNat : Int) ≤ 244 := by omega
        clear b223 hout
        go_enter Tryz.func67, Tryz.ntmps67
        go_wp2
        go_ret2
        exact ⟨by rw [HS.out, HF.out]; rfl, rfl⟩
      · have f224 : ¬ (224 : Int) ≤ (c.toNat : Int) := by omega
        have f240 : ¬ (240 : Int) ≤ (c.toNat : Int) := by omega
        clear b223 hout
        go_enter Tryz.func67, Tryz.ntmps67
        go_wp2
        go_ret2
        exact ⟨by rw [HS.out, HF.out]; rfl, rfl⟩
    · have hI : SqI u 1 := ⟨by omega, by omega, by omega, by have := sqL_bound (u.get! 0).toNat; omega, by omega, fun j _ _ => by omega⟩
      have HI : Hid _ := hI
      have hall : ∀ k, SqI u k → (k < sqL (u.get! 0).toNat → k = u.size → sqn u = 0 ∧ sqF u = false) ∧ (k < sqL (u.get! 0).toNat → k < u.size → ¬ (sqLo2 (u.get! 0).toNat k ≤ (u.get! k).toNat ∧ (u.get! k).toNat ≤ sqHi2 (u.get! 0).toNat k) → sqn u = 0 ∧ sqF u = true) ∧ (k < sqL (u.get! 0).toNat → k < u.size → (sqLo2 (u.get! 0).toNat k ≤ (u.get! k).toNat ∧ (u.get! k).toNat ≤ sqHi2 (u.get! 0).toNat k) → SqI u (k + 1)) ∧ (¬ k < sqL (u.get! 0).toNat → sqn u = sqL (u.get! 0).toNat) ∧ 1 ≤ k ∧ k ≤ u.size :=
        fun k hk => ⟨fun h1 h2 => ⟨sq_short hk h1 h2, sqF_short hk h1 h2⟩, fun h1 h3 h2 => ⟨sq_wrong hk h1 (fun h => h2 ((sqB_iff _ _ _).1 h)), sqF_wrong hk h1 h3 (fun h => h2 ((sqB_iff _ _ _).1 h))⟩, fun h1 h2 h3 => hk.next h1 h2 ((sqB_iff _ _ _).2 h3), fun h1 => sq_done hk (by have := hk.most; omega), hk.one, hk.size⟩
      have HA : Hid _ := hall
      clear hall hI
      have hcls : ((u.get! 0).toNat ≤ 223 ∧ sqL (u.get! 0).toNat = 2 ∧ sqLo (u.get! 0).toNat = 128 ∧ sqHi (u.get! 0).toNat = 191) ∨ ((u.get! 0).toNat = 224 ∧ sqL (u.get! 0).toNat = 3 ∧ sqLo (u.get! 0).toNat = 160 ∧ sqHi (u.get! 0).toNat = 191) ∨ ((225 ≤ (u.get! 0).toNat ∧ (u.get! 0).toNat ≤ 239 ∧ ¬ (u.get! 0).toNat = 237) ∧ sqL (u.get! 0).toNat = 3 ∧ sqLo (u.get! 0).toNat = 128 ∧ sqHi (u.get! 0).toNat = 191) ∨ ((u.get! 0).toNat = 237 ∧ sqL (u.get! 0).toNat = 3 ∧ sqLo (u.get! 0).toNat = 128 ∧ sqHi (u.get! 0).toNat = 159) ∨ ((u.get! 0).toNat = 240 ∧ sqL (u.get! 0).toNat = 4 ∧ sqLo (u.get! 0).toNat = 144 ∧ sqHi (u.get! 0).toNat = 191) ∨ ((241 ≤ (u.get! 0).toNat ∧ (u.get! 0).toNat ≤ 243) ∧ sqL (u.get! 0).toNat = 4 ∧ sqLo (u.get! 0).toNat = 128 ∧ sqHi (u.get! 0).toNat = 191) ∨ ((u.get! 0).toNat = 244 ∧ sqL (u.get! 0).toNat = 4 ∧ sqLo (u.get! 0).toNat = 128 ∧ sqHi (u.get! 0).toNat = 143) := by
        unfold sqL sqLo sqHi
        repeat' split
        all_goals omega
      have HG : Hid (∀ k : Nat, (hk : k < u.size) → u[k] = u.get! k) := fun k hk => Jv.get_eq u k hk
      generalize u.get! 0 = c at *
      have hwc : wrap64 (c.toNat : Int) = (c.toNat : Int) := by unfold wrap64; omega
      have b128 : ¬ (c.toNat : Int) < 128 := by omega
      have b194 : (194 : Int) ≤ (c.toNat : Int) := by omega
      have b244 : (c.toNat : Int) ≤ 244 := by omega
      generalize hL : sqL c.toNat = L at *
      clear hL
      have HD : Hid (∀ k : Nat, k < L ∨ ¬ k < L) := fun k => by omega
      rcases hcls with ⟨hc, rfl, hlo, hhi⟩ | ⟨hc, rfl, hlo, hhi⟩ | ⟨hc, rfl, hlo, hhi⟩ | ⟨hc, rfl, hlo, hhi⟩ | ⟨hc, rfl, hlo, hhi⟩ | ⟨hc, rfl, hlo, hhi⟩ | ⟨hc, rfl, hlo, hhi⟩
      all_goals
        first | (have f223 : (c.toNat : Int) ≤ 223 := by omega) | (have f223 : ¬ (c.toNat : Int) ≤ 223 := by omega)
        first | (have f224 : (224 : Int) ≤ (c.toNat : Int) := by omega) | (have f224 : ¬ (224 : Int) ≤ (c.toNat : Int) := by omega)
        first | (have f239 : (c.toNat : Int) ≤ 239 := by omega) | (have f239 : ¬ (c.toNat : Int) ≤ 239 := by omega)
        first | (have f240 : (240 : Int) ≤ (c.toNat : Int) := by omega) | (have f240 : ¬ (240 : Int) ≤ (c.toNat : Int) := by omega)
        first | (have e224 : (c.toNat : Int) = 224 := by omega) | (have e224 : ¬ (c.toNat : Int) = 224 := by omega)
        first | (have e237 : (c.toNat : Int) = 237 := by omega) | (have e237 : ¬ (c.toNat : Int) = 237 := by omega)
        first | (have e240 : (c.toNat : Int) = 240 := by omega) | (have e240 : ¬ (c.toNat : Int) = 240 := by omega)
        first | (have e244 : (c.toNat : Int) = 244 := by omega) | (have e244 : ¬ (c.toNat : Int) = 244 := by omega)
        go_enter Tryz.func67, Tryz.ntmps67
        go_wp2
        go_loopw [6, 7, 8] (fun lo hi i wr => ∃ k : Nat, i = .int .i64 k ∧ lo = .int .i64 (sqLo2 c.toNat k : Nat) ∧ hi = .int .i64 (sqHi2 c.toNat k : Nat) ∧ SqI u k ∧ wr = w) (fun _ _ i _ => u.size - (intOf i).toNat)
        case atStart => exact ⟨1, rfl, by simp [sqLo2, hlo], by simp [sqHi2, hhi], HI.out, rfl⟩
        case round =>
          obtain ⟨k, rfl, rfl, rfl, hk, rfl⟩ := hrel
          obtain ⟨k1, k2, k3, k4, k5, k6⟩ := HA.out k hk
          have e1 : sqLo2 c.toNat (k + 1) = 128 := by unfold sqLo2; rw [if_neg (by omega)]
          have e2 : sqHi2 c.toNat (k + 1) = 191 := by unfold sqHi2; rw [if_neg (by omega)]
          have E1 : Hid _ := e1
          have E2 : Hid _ := e2
          clear e1 e2
          rcases HD.out k with d1 | d1
          · first | (have d2 : (k : Int) < 2 := by omega) | (have d2 : (k : Int) < 3 := by omega) | (have d2 : (k : Int) < 4 := by omega)
            by_cases hks : k = u.size
            · have d3 : (k : Int) = (u.size : Int) := by omega
              have HS : Hid _ := k1 d1 hks
              clear k1 k2 k3 k4
              go_wp2
              go_ret2
              exact ⟨by rw [HS.out.1, HS.out.2]; rfl, rfl⟩
            · have d3 : ¬ (k : Int) = (u.size : Int) := by omega
              have d4 : (k : Int) < (u.size : Int) := by omega
              have hgk := HG.out k (by omega)
              have hdl : (u.get! k).toNat < 256 := UInt8.toNat_lt _
              generalize u.get! k = d at *
              have hwd : wrap64 (d.toNat : Int) = (d.toNat : Int) := by unfold wrap64; omega
              generalize hx1 : sqLo2 c.toNat k = x1 at *
              generalize hx2 : sqHi2 c.toNat k = x2 at *
              clear hx1 hx2
              by_cases hl : x1 ≤ d.toNat
              · have dl : ¬ (d.toNat : Int) < (x1 : Int) := by omega
                by_cases hh : d.toNat ≤ x2
                · have HN : Hid _ := k3 d1 (by omega) ⟨hl, hh⟩
                  have dh : ¬ (x2 : Int) < (d.toNat : Int) := by omega
                  clear k1 k2 k3 k4
                  go_wp2
                  go_roundw
                  case rel => exact ⟨k + 1, by go_num, by rw [E1.out]; rfl, by rw [E2.out]; rfl, HN.out, by trivial⟩
                  case measure => simp [intOf]; omega
                · have dh : (x2 : Int) < (d.toNat : Int) := by omega
                  have HS : Hid _ := k2 d1 (by omega) (fun h => hh h.2)
                  clear k1 k2 k3 k4
                  go_wp2
                  go_ret2
                  exact ⟨by rw [HS.out.1, HS.out.2]; rfl, rfl⟩
              · have dl : (d.toNat : Int) < (x1 : Int) := by omega
                have HS : Hid _ := k2 d1 (by omega) (fun h => hl h.1)
                clear k1 k2 k3 k4
                go_wp2
                go_ret2
                exact ⟨by rw [HS.out.1, HS.out.2]; rfl, rfl⟩
          · first | (have d2 : ¬ (k : Int) < 4 := by omega) | (have d2 : ¬ (k : Int) < 3 := by omega) | (have d2 : ¬ (k : Int) < 2 := by omega)
            have HS : Hid _ := k4 d1
            clear k1 k2 k3 k4
            go_wp2
            go_ret2
            exact ⟨by rw [HS.out]; rfl, rfl⟩
end Go.Proofs
