/-
  'Path', at every text.
-/
import Derived.Test.YtoibnhknkhefjaaGreatDoorJz
namespace Go.Jv
/-- What 'Path' does from a place on: the parts that are done, the bytes of the one under way. -/
def pathF (s : ByteArray) : Nat → Nat → List ByteArray → List UInt8 → R (List ByteArray)
  | 0, _, parts, part => .ok (parts ++ [⟨part.toArray⟩])
  | n + 1, p, parts, part =>
    if p < s.size then
      if 128 ≤ (s.get! p).toNat ∧ (Utf8.decode s p).2 = 1 then .bad p 10
      else if (s.get! p).toNat = 46 then pathF s n (p + (Utf8.decode s p).2) (parts ++ [⟨part.toArray⟩]) []
      else if (s.get! p).toNat ≠ 92 then pathF s n (p + (Utf8.decode s p).2) parts (part ++ (s.extract p (p + (Utf8.decode s p).2)).data.toList)
      else if p + 1 = s.size ∨ ((s.get! (p + 1)).toNat ≠ 46 ∧ (s.get! (p + 1)).toNat ≠ 92) then .bad p 25
      else pathF s n (p + 2) parts (part ++ [s.get! (p + 1)])
    else .ok (parts ++ [⟨part.toArray⟩])
theorem pathF_step (s : ByteArray) (n p : Nat) (parts : List ByteArray) (part : List UInt8) (h : p < s.size) : pathF s (n + 1) p parts part =
    if 128 ≤ (s.get! p).toNat ∧ (Utf8.decode s p).2 = 1 then .bad p 10
    else if (s.get! p).toNat = 46 then pathF s n (p + (Utf8.decode s p).2) (parts ++ [⟨part.toArray⟩]) []
    else if (s.get! p).toNat ≠ 92 then pathF s n (p + (Utf8.decode s p).2) parts (part ++ (s.extract p (p + (Utf8.decode s p).2)).data.toList)
    else if p + 1 = s.size ∨ ((s.get! (p + 1)).toNat ≠ 46 ∧ (s.get! (p + 1)).toNat ≠ 92) then .bad p 25
    else pathF s n (p + 2) parts (part ++ [s.get! (p + 1)]) := by rw [pathF, if_pos h]
theorem pathF_end (s : ByteArray) (n p : Nat) (parts : List ByteArray) (part : List UInt8) (h : ¬ p < s.size) : pathF s n p parts part = .ok (parts ++ [⟨part.toArray⟩]) := by
  cases n with
  | zero => rfl
  | succ n => rw [pathF, if_neg h]
def path (s : ByteArray) : R (List ByteArray) := if 200 < s.size then .bad 200 22 else pathF s (s.size + 1) 0 [] []
end Go.Jv
namespace Go.Proofs
open Go.RowKit Go.Jv
def Jv.txts (l : List ByteArray) : List Value := l.map Value.string
/-- Blocks of other types stay where a row grows. -/
theorem Jv.keep_grown {w w' : World} {row : Option Nat} {e : TypeId} (hg : w.grownBy w' row) (hrow : ∀ k : Nat, row = some k → ∃ cur fz, w.heap[k]? = some (.cells cur e fz)) :
    ∀ (k : Nat) c e' fz, w.heap[k]? = some (.cells c e' fz) → e' ≠ e → w'.heap[k]? = some (.cells c e' fz) := by
  intro k c e' fz hk hne
  have hlt := (Array.getElem?_eq_some_iff.1 hk).1
  rw [hg.block k hlt (fun h => ?_)]
  · exact hk
  · obtain ⟨cur, fz', h2⟩ := hrow k h.symm
    rw [hk] at h2
    simp at h2
    exact hne h2.2.1
theorem Jv.row_type {w : World} {B : Nat} {e : TypeId} {size : Nat} {v : Value} {n : Nat} {xs : List Value} (h : w.ownsRow B e size v n xs) : ∀ k : Nat, v.ownBlock = some k → ∃ cur fz, w.heap[k]? = some (.cells cur e fz) := by
  intro k hk
  rcases h.2 with ⟨rfl, _⟩ | ⟨g, cap, cur, rfl, _, h3, _⟩
  · cases hk
  · simp [Value.ownBlock] at hk
    subst hk
    exact ⟨cur, _, h3⟩
theorem Jv.row_typed {w w' : World} {B : Nat} {e : TypeId} {size : Nat} {v : Value} {n : Nat} {xs : List Value} (h : w.ownsRow B e size v n xs) (hk : ∀ (k : Nat) c fz, w.heap[k]? = some (.cells c e fz) → w'.heap[k]? = some (.cells c e fz)) : w'.ownsRow B e size v n xs := by
  refine ⟨h.1, ?_⟩
  rcases h.2 with h1 | ⟨g, cap, cur, h1, h2, h3, h4⟩
  · exact .inl h1
  · exact .inr ⟨g, cap, cur, h1, h2, hk g cur _ h3, h4⟩
/-- Another row, of another type, where a row grows. -/
theorem Jv.row_other {w w' : World} {B B' : Nat} {e e' : TypeId} {size size' : Nat} {v v' : Value} {n n' : Nat} {xs xs' : List Value} (h : w.ownsRow B e size v n xs) (h' : w.ownsRow B' e' size' v' n' xs') (hg : w.grownBy w' v.ownBlock) (hne : e' ≠ e) : w'.ownsRow B' e' size' v' n' xs' :=
  Jv.row_typed h' fun k c fz hk => Jv.keep_grown hg (Jv.row_type h) k c _ fz hk hne
/-- 'append' of a text's bytes, as the world has it. -/
theorem Tryz.app_str2 {ops : Array Oper} {rest : List Oper} {o : Oper} {a : Act} {Q : Exit → Act → World → Prop} (hgd : o.guard = none) (s x : Operand)
    (ho : o.op = .call { callee := .builtin .append, args := #[s, x], argTypes := #[39, 9] })
    (B : Nat) (v : Value) (n : Nat) (xs : List Value) (hs : a.eval s = v) (w : World) (hrow : w.ownsRow B 5 1 v n xs) (hB : B ≤ w.heap.size) (t : ByteArray) (hx : a.eval x = .string t) (hlen : n + t.size ≤ 140737488355328)
    (h : ∀ v' w', w'.ownsRow B 5 1 v' (n + t.size) (xs ++ Lib.byteCells t.data.toList) → w.grownBy w' v.ownBlock → wpList Tryz.prog ops Q rest (a.put o.dst v') w') : wpList Tryz.prog ops Q (o :: rest) a w := by
  obtain ⟨i0, hi0, hz0, hz1, hz2⟩ := info_parts Tryz.info_u8
  refine Lib.wpList_append_own_string w hgd s x 39 9 ho B 5 i0 Tryz.underlying39 Tryz.underlying9 hi0 hz0 hz1 hz2 v n xs hs hrow t hx (by unfold maxLen; omega) hlen hB ?_
  intro v' w' hown hg _
  exact h v' w' hown hg
/-- 'append' of one byte. -/
theorem Tryz.app_one2 {ops : Array Oper} {rest : List Oper} {o : Oper} {a : Act} {Q : Exit → Act → World → Prop} (hgd : o.guard = none) (s x : Operand)
    (ho : o.op = .call { callee := .builtin .append, args := #[s, x], argTypes := #[39, 39] })
    (B : Nat) (v : Value) (n : Nat) (xs : List Value) (hs : a.eval s = v) (w : World) (hrow : w.ownsRow B 5 1 v n xs) (hB : B ≤ w.heap.size) (u : Value) (hu : u.oneCell' = true) (hx : a.eval x = .slice (some ⟨w.heap.size, 0, none⟩) 1 1) (hlen : n + 1 ≤ 140737488355328)
    (h : ∀ v' w', w'.ownsRow B 5 1 v' (n + 1) (xs ++ [u]) → (w.alloc (.cells #[u] 5)).grownBy w' v.ownBlock → wpList Tryz.prog ops Q rest (a.put o.dst v') w') : wpList Tryz.prog ops Q (o :: rest) a (w.alloc (.cells #[u] 5)) := by
  obtain ⟨i0, hi0, hz0, hz1, hz2⟩ := info_parts Tryz.info_u8
  refine wpList_append_lies _ hgd s x 39 ho B 5 i0 _ 1 1 Tryz.underlying39 hi0 hz0 hz1 hz2 rfl (by omega) v n xs hs (Jv.row_alloc hrow _) ⟨w.heap.size, 0, none⟩ 1 1 [u] hx rfl (World.news_of_block (cs := #[u]) (t := 5) (fr := (0, 0)) (heap_alloc_new w _)) (by intro y hy; rw [List.mem_singleton.1 hy]; exact hu) (by omega) (by unfold maxLen; omega) (by omega) (by simp; omega) (w.heap.size + 1) (by simp) ?_
  intro g cap w' hown hg hat hlt
  exact h _ w' hown hg
/-- 'append' of one text. -/
theorem Tryz.app_txt {ops : Array Oper} {rest : List Oper} {o : Oper} {a : Act} {Q : Exit → Act → World → Prop} (hgd : o.guard = none) (s x : Operand)
    (ho : o.op = .call { callee := .builtin .append, args := #[s, x], argTypes := #[23, 23] })
    (B : Nat) (v : Value) (n : Nat) (xs : List Value) (hs : a.eval s = v) (w : World) (hrow : w.ownsRow B 9 1 v n xs) (hB : B ≤ w.heap.size) (u : ByteArray) (hx : a.eval x = .slice (some ⟨w.heap.size, 0, none⟩) 1 1) (hlen : (n + 1) * 16 ≤ 140737488355328)
    (h : ∀ v' w', w'.ownsRow B 9 1 v' (n + 1) (xs ++ [.string u]) → (w.alloc (.cells #[.string u] 9)).grownBy w' v.ownBlock → wpList Tryz.prog ops Q rest (a.put o.dst v') w') : wpList Tryz.prog ops Q (o :: rest) a (w.alloc (.cells #[.string u] 9)) := by
  obtain ⟨i0, hi0, hz0, hz1, hz2⟩ := info_parts Tryz.info_str
  refine wpList_append_lies _ hgd s x 23 ho B 9 i0 _ 1 16 Tryz.underlying23 hi0 hz0 hz1 hz2 rfl (by omega) v n xs hs (Jv.row_alloc hrow _) ⟨w.heap.size, 0, none⟩ 1 1 [.string u] hx rfl (World.news_of_block (cs := #[.string u]) (t := 9) (fr := (0, 0)) (heap_alloc_new w _)) (by intro y hy; rw [List.mem_singleton.1 hy]; rfl) (by omega) (by unfold maxLen; omega) (by omega) (by simp; omega) (w.heap.size + 1) (by simp) ?_
  intro g cap w' hown hg hat hlt
  exact h _ w' hown hg
/-- What 'Path' leaves. -/
def Tryz.PathOk (s : ByteArray) (w : World) (en : Ending) (w' : World) : Prop :=
  (∃ l v, path s = .ok l ∧ en = .returned (.tuple #[v, .nilIface]) ∧ w'.ownsRow w.heap.size 9 1 v l.length (Jv.txts l) ∧ Below w.heap.size w w') ∨
  (∃ p e y, path s = .bad p e ∧ en = .returned (.tuple #[.slice none 0 0, .iface 71 (.pointer (some ⟨y, 0, none⟩))]) ∧ w'.cell? ⟨y, 0, none⟩ = some (.int .i64 (p : Nat)) ∧ w'.cell? ⟨y, 1, none⟩ = some (.int .i64 (e : Nat)) ∧ w.heap.size ≤ y ∧ Below w.heap.size w w')
theorem Jv.bthen0 {w w1 w2 : World} (h1 : Below w.heap.size w w1) (h2 : Below w1.heap.size w1 w2) : Below w.heap.size w w2 := h1.trans (h2.mono h1.size)
theorem Tryz.path_bad {s : ByteArray} {p e : Nat} {w W : World} (h : path s = .bad p e) (hb : Below w.heap.size w W) :
    Tryz.PathOk s w (.returned (.tuple #[.slice none 0 0, .iface 71 (.pointer (some ⟨W.heap.size, 0, none⟩))])) (W.alloc (.cells #[.int .i64 (p : Nat), .int .i64 (e : Nat)] 80)) :=
  .inr ⟨p, e, W.heap.size, h, rfl, cell_of_row _ _ 0 _ _ _ (heap_alloc_new W _), cell_of_row _ _ 1 _ _ _ (heap_alloc_new W _), hb.size, hb.alloc hb.size _⟩
/-- The state of 'Path' between two signs. -/
structure Tryz.Ph (s : ByteArray) (w : World) (n p : Nat) (parts : List ByteArray) (part : List UInt8) (pv bv : Value) (wr : World) : Prop where
  hp : p ≤ s.size
  hn : s.size + 1 ≤ p + n
  rp : wr.ownsRow w.heap.size 9 1 pv parts.length (Jv.txts parts)
  rb : wr.ownsRow w.heap.size 5 1 bv part.length (Lib.byteCells part)
  bl : Below w.heap.size w wr
  lp : parts.length ≤ p
  lb : part.length ≤ p
  eq : pathF s n p parts part = pathF s (s.size + 1) 0 [] []
/-- A part ends. -/
theorem Tryz.Ph.part {s : ByteArray} {w : World} {n p z : Nat} {parts : List ByteArray} {part : List UInt8} {pv bv pv' : Value} {wr w1 w2 : World} (h : Tryz.Ph s w (n + 1) p parts part pv bv wr) (hb1 : Below wr.heap.size wr w1) (hz1 : 1 ≤ z) (hz2 : p + z ≤ s.size)
    (hrow : w2.ownsRow w.heap.size 9 1 pv' (parts.length + 1) (Jv.txts parts ++ [.string ⟨part.toArray⟩])) (hg : (w1.alloc (.cells #[.string ⟨part.toArray⟩] 9)).grownBy w2 pv.ownBlock)
    (he : pathF s (n + 1) p parts part = pathF s n (p + z) (parts ++ [⟨part.toArray⟩]) []) : Tryz.Ph s w n (p + z) (parts ++ [⟨part.toArray⟩]) [] pv' (.slice none 0 0) w2 := by
  have b1 := Jv.bthen0 h.bl hb1
  refine ⟨hz2, by have := h.hn; omega, ?_, ⟨rfl, .inl ⟨rfl, rfl⟩⟩, b1.trans (Jv.below_grown hg b1.size (Jv.row_block h.rp)), by have := h.lp; simp; omega, by simp, he.symm.trans h.eq⟩
  have e1 : (parts ++ [(⟨part.toArray⟩ : ByteArray)]).length = parts.length + 1 := by simp
  have e2 : Jv.txts (parts ++ [(⟨part.toArray⟩ : ByteArray)]) = Jv.txts parts ++ [.string ⟨part.toArray⟩] := by simp [Jv.txts]
  rw [e1, e2]; exact hrow
/-- Bytes more. -/
theorem Tryz.Ph.more {s : ByteArray} {w : World} {n p z : Nat} {parts : List ByteArray} {part : List UInt8} {new : List UInt8} {pv bv bv' : Value} {wr w1 w2 : World} (h : Tryz.Ph s w (n + 1) p parts part pv bv wr) (hb1 : Below wr.heap.size wr w1) (hz1 : 1 ≤ z) (hz2 : p + z ≤ s.size) (hl : new.length ≤ z)
    (hrow : w2.ownsRow w.heap.size 5 1 bv' (part.length + new.length) (Lib.byteCells part ++ Lib.byteCells new)) (hg : w1.grownBy w2 bv.ownBlock)
    (he : pathF s (n + 1) p parts part = pathF s n (p + z) parts (part ++ new)) : Tryz.Ph s w n (p + z) parts (part ++ new) pv bv' w2 := by
  have b1 := Jv.bthen0 h.bl hb1
  have rp1 := Jv.row_below h.rp hb1
  have rb1 := Jv.row_below h.rb hb1
  refine ⟨hz2, by have := h.hn; omega, Jv.row_other rb1 rp1 hg (by decide), ?_, b1.grown hg b1.size (Jv.row_block h.rb), by have := h.lp; omega, by have := h.lb; simp; omega, he.symm.trans h.eq⟩
  rw [List.length_append, Lib.byteCells_append]; exact hrow
set_option maxRecDepth 100000 in
set_option maxHeartbeats 4000000 in
theorem Tryz.path_any (s : ByteArray) (hs : s.size ≤ 140737488355328) (w : World) (hT : Tryz.Tb w) :
    Calls Tryz.prog 20 #[.string s] w fun en w' => Tryz.PathOk s w en w' := by
  by_cases h200 : 200 < s.size
  · have h1 : (200 : Int) < (s.size : Int) := by omega
    have hP : path s = .bad 200 22 := by unfold path; rw [if_pos h200]
    have HP : Hid (path s = .bad 200 22) := hP
    clear hP
    clear h200
    go_enter Tryz.func20, Tryz.ntmps20
    go_wp2_with (first | (go_at_call 33; refine (Tryz.fault_any _ _ _).mono ?_; rintro e9 w9 ⟨rfl, rfl⟩) | fail)
    go_ret2
    exact Tryz.path_bad HP.out (Below.refl _ _)
  · have h1 : ¬ (200 : Int) < (s.size : Int) := by omega
    have hP : path s = pathF s (s.size + 1) 0 [] [] := by unfold path; rw [if_neg h200]
    have HP : Hid _ := hP
    have HT : Hid _ := hT
    clear hP hT
    go_enter Tryz.func20, Tryz.ntmps20
    go_wp2
    go_loopw [4, 5, 6] (fun pv bv i wr => ∃ (n p : Nat) (parts : List ByteArray) (part : List UInt8), i = .int .i64 p ∧ Tryz.Ph s w n p parts part pv bv wr) (fun _ _ i _ => s.size - (intOf i).toNat)
    case atStart => exact ⟨s.size + 1, 0, [], [], rfl, by omega, by omega, ⟨rfl, .inl ⟨rfl, rfl⟩⟩, ⟨rfl, .inl ⟨rfl, rfl⟩⟩, Below.refl _ _, by simp, by simp, rfl⟩
    case round =>
      obtain ⟨n, p, parts, part, rfl, hH⟩ := hrel
      have HH : Hid _ := hH
      have hcv : ∀ W, Below wr.heap.size wr W → (convert 39 9 u5).run Tryz.prog W = .ok (.string ⟨part.toArray⟩) W := fun W hW => Tryz.gathered (Jv.row_below hH.rb hW)
      have HCV : Hid _ := hcv
      have hlp := hH.lp
      have hlb := hH.lb
      have hsr := hH.bl.size
      have hps := hH.hp
      clear hcv
      by_cases hlt : p < s.size
      · obtain ⟨m, rfl⟩ : ∃ m, n = m + 1 := ⟨n - 1, by have := hH.hn; omega⟩
        have q1 : (p : Int) < (s.size : Int) := by omega
        have hD := Tryz.utf8_DecodeRuneInString (s.extract p s.size)
        rw [Jv.decodeGo_tail s p hlt] at hD
        have hdl : p + (Utf8.decode s p).2 ≤ s.size := Sg.decode_in s p hlt
        have hd1 := Lib.width_pos s p
        have hg := Jv.get_eq s p hlt
        have hF := pathF_step s m p parts part hlt
        have HT2 : Hid (Tryz.Tb wr) := HT.out.below hH.bl HT.out.size
        have hex : (s.extract p (p + (Utf8.decode s p).2)).data.toList.length = (Utf8.decode s p).2 := by
          rw [Array.length_toList]
          show (s.extract p (p + (Utf8.decode s p).2)).size = _
          rw [ByteArray.size_extract]; omega
        have hez : (s.extract p (p + (Utf8.decode s p).2)).size = (Utf8.decode s p).2 := by rw [ByteArray.size_extract]; omega
        generalize hc : s.get! p = c at *
        generalize hd : Utf8.decode s p = D at *
        obtain ⟨r, z⟩ := D
        simp only at hdl hd1 hF hex hez hD
        have hzi : (p : Int) + (z : Int) ≤ (s.size : Int) := by omega
        clear hc hd hH
        by_cases h128 : 128 ≤ c.toNat
        · have b128 : (128 : Int) ≤ (c.toNat : Int) := by omega
          have b46 : ¬ (c.toNat : Int) = 46 := by omega
          have b92 : ¬ (c.toNat : Int) = 92 := by omega
          by_cases hz : z = 1
          · rw [if_pos ⟨h128, hz⟩] at hF
            have HF : Hid _ := hF
            subst hz
            clear hF
            go_wp2_with (first
              | (go_at_call 37; refine (hD _ HT2.out.here.u8).mono ?_; clear hD; rintro e1 w1 ⟨rfl, hb1⟩)
              | (go_at_call 33; refine (Tryz.fault_any _ _ _).mono ?_; rintro e9 w9 ⟨rfl, rfl⟩)
              | fail)
            go_ret2
            exact Tryz.path_bad (HP.out.trans (HH.out.eq.symm.trans HF.out)) (Jv.bthen0 HH.out.bl hb1)
          · rw [if_neg (fun h => hz h.2), if_neg (by omega), if_pos (by omega)] at hF
            have HF : Hid _ := hF
            have hz' : ¬ (z : Int) = 1 := by omega
            clear hF hz
            go_wp2_with (first
              | (go_at_call 37; refine (hD _ HT2.out.here.u8).mono ?_; clear hD; rintro e1 w1 ⟨rfl, hb1⟩)
              | (at_builtin; refine Tryz.app_str2 rfl _ _ rfl w.heap.size _ part.length (Lib.byteCells part) rfl w1 (Jv.row_below HH.out.rb hb1) (Nat.le_trans hsr hb1.size) (s.extract p (p + z)) (by simp [Act.eval]) (by omega) ?_; intro v2 w2 hown2 hg2)
              | fail)
            go_roundw
            case rel => exact ⟨m, p + z, parts, part ++ (s.extract p (p + z)).data.toList, by go_num, HH.out.more hb1 hd1 hdl (by omega) (by rw [hez] at hown2; rw [hex]; exact hown2) hg2 HF.out⟩
            case measure => simp [intOf]; omega
        · have b128 : ¬ (128 : Int) ≤ (c.toNat : Int) := by omega
          rw [if_neg (fun h => h128 h.1)] at hF
          by_cases h46 : c.toNat = 46
          · have b46 : (c.toNat : Int) = 46 := by omega
            rw [if_pos h46] at hF
            have HF : Hid _ := hF
            clear hF hex hez
            go_wp2_with (first
              | (go_at_call 37; refine (hD _ HT2.out.here.u8).mono ?_; clear hD; rintro e1 w1 ⟨rfl, hb1⟩; have hcv1 := HCV.out _ hb1)
              | (at_builtin; refine Tryz.app_txt rfl _ _ rfl w.heap.size _ parts.length (Jv.txts parts) rfl w1 (Jv.row_below HH.out.rp hb1) (Nat.le_trans hsr hb1.size) ⟨part.toArray⟩ rfl (by omega) ?_; intro v2 w2 hown2 hg2)
              | fail)
            go_roundw
            case rel => exact ⟨m, p + z, parts ++ [⟨part.toArray⟩], [], by go_num, HH.out.part hb1 hd1 hdl hown2 hg2 HF.out⟩
            case measure => simp [intOf]; omega
          · have b46 : ¬ (c.toNat : Int) = 46 := by omega
            rw [if_neg h46] at hF
            by_cases h92 : c.toNat = 92
            · have b92 : (c.toNat : Int) = 92 := by omega
              rw [if_neg (by omega)] at hF
              by_cases hend : p + 1 = s.size
              · rw [if_pos (.inl hend)] at hF
                have HF : Hid _ := hF
                have bend : ((p : Int) + 1 == (s.size : Int)) = true := beq_iff_eq.2 (by omega)
                have bend' : (p : Int) + 1 = (s.size : Int) := by omega
                clear hF hex hez
                go_wp2_with (first
                  | (go_at_call 37; refine (hD _ HT2.out.here.u8).mono ?_; clear hD; rintro e1 w1 ⟨rfl, hb1⟩; have hcv1 := HCV.out _ hb1)
                  | (go_at_call 33; refine (Tryz.fault_any _ _ _).mono ?_; rintro e9 w9 ⟨rfl, rfl⟩)
                  | fail)
                go_ret2
                exact Tryz.path_bad (HP.out.trans (HH.out.eq.symm.trans HF.out)) (Jv.bthen0 HH.out.bl hb1)
              · have bend : ((p : Int) + 1 == (s.size : Int)) = false := by rw [beq_eq_false_iff_ne]; omega
                have bend' : ¬ (p : Int) + 1 = (s.size : Int) := by omega
                have bl1 : (p : Int) + 1 < (s.size : Int) := by omega
                have hg1 := Jv.get_eq s (p + 1) (by omega)
                generalize s.get! (p + 1) = d at *
                by_cases d46 : d.toNat = 46
                · have c46 : (d.toNat : Int) = 46 := by omega
                  rw [if_neg (fun h => h.elim hend (fun h => h.1 d46))] at hF
                  have HF : Hid _ := hF
                  clear hF hex hez
                  go_wp2_with (first
                    | (go_at_call 37; refine (hD _ HT2.out.here.u8).mono ?_; clear hD; rintro e1 w1 ⟨rfl, hb1⟩; have hcv1 := HCV.out _ hb1)
                    | (at_builtin; refine Tryz.app_one2 rfl _ _ rfl w.heap.size _ part.length (Lib.byteCells part) rfl w1 (Jv.row_below HH.out.rb hb1) (Nat.le_trans hsr hb1.size) (.int .u8 46) rfl rfl (by omega) ?_; intro v2 w2 hown2 hg2)
                    | fail)
                  go_roundw
                  case rel => exact ⟨m, p + 2, parts, part ++ [d], by go_num, HH.out.more (Jv.bthen0 (Below.refl _ _) (hb1.alloc hb1.size _)) (by omega) (by omega) (by simp) (by rw [show Lib.byteCells [d] = [.int .u8 46] by simp [Lib.byteCells, d46]]; exact hown2) hg2 HF.out⟩
                  case measure => simp [intOf]; omega
                · have c46 : ¬ (d.toNat : Int) = 46 := by omega
                  by_cases d92 : d.toNat = 92
                  · have c92 : (d.toNat : Int) = 92 := by omega
                    rw [if_neg (fun h => h.elim hend (fun h => h.2 d92))] at hF
                    have HF : Hid _ := hF
                    clear hF hex hez
                    go_wp2_with (first
                      | (go_at_call 37; refine (hD _ HT2.out.here.u8).mono ?_; clear hD; rintro e1 w1 ⟨rfl, hb1⟩; have hcv1 := HCV.out _ hb1)
                      | (at_builtin; refine Tryz.app_one2 rfl _ _ rfl w.heap.size _ part.length (Lib.byteCells part) rfl w1 (Jv.row_below HH.out.rb hb1) (Nat.le_trans hsr hb1.size) (.int .u8 92) rfl rfl (by omega) ?_; intro v2 w2 hown2 hg2)
                      | fail)
                    go_roundw
                    case rel => exact ⟨m, p + 2, parts, part ++ [d], by go_num, HH.out.more (Jv.bthen0 (Below.refl _ _) (hb1.alloc hb1.size _)) (by omega) (by omega) (by simp) (by rw [show Lib.byteCells [d] = [.int .u8 92] by simp [Lib.byteCells, d92]]; exact hown2) hg2 HF.out⟩
                    case measure => simp [intOf]; omega
                  · have c92 : ¬ (d.toNat : Int) = 92 := by omega
                    have c92b : ((d.toNat : Int) != 92) = true := by simp; omega
                    have c46b : ((d.toNat : Int) != 46) = true := by simp; omega
                    rw [if_pos (.inr ⟨d46, d92⟩)] at hF
                    have HF : Hid _ := hF
                    clear hF hex hez
                    go_wp2_with (first
                      | (go_at_call 37; refine (hD _ HT2.out.here.u8).mono ?_; clear hD; rintro e1 w1 ⟨rfl, hb1⟩; have hcv1 := HCV.out _ hb1)
                      | (go_at_call 33; refine (Tryz.fault_any _ _ _).mono ?_; rintro e9 w9 ⟨rfl, rfl⟩)
                      | fail)
                    go_ret2
                    exact Tryz.path_bad (HP.out.trans (HH.out.eq.symm.trans HF.out)) (Jv.bthen0 HH.out.bl hb1)
            · have b92 : ¬ (c.toNat : Int) = 92 := by omega
              rw [if_pos h92] at hF
              have HF : Hid _ := hF
              clear hF
              go_wp2_with (first
                | (go_at_call 37; refine (hD _ HT2.out.here.u8).mono ?_; clear hD; rintro e1 w1 ⟨rfl, hb1⟩; have hcv1 := HCV.out _ hb1)
                | (at_builtin; refine Tryz.app_str2 rfl _ _ rfl w.heap.size _ part.length (Lib.byteCells part) rfl w1 (Jv.row_below HH.out.rb hb1) (Nat.le_trans hsr hb1.size) (s.extract p (p + z)) (by simp [Act.eval]) (by omega) ?_; intro v2 w2 hown2 hg2)
                | fail)
              go_roundw
              case rel => exact ⟨m, p + z, parts, part ++ (s.extract p (p + z)).data.toList, by go_num, HH.out.more hb1 hd1 hdl (by omega) (by rw [hez] at hown2; rw [hex]; exact hown2) hg2 HF.out⟩
              case measure => simp [intOf]; omega
      · have q1 : ¬ (p : Int) < (s.size : Int) := by omega
        have HF : Hid _ := pathF_end s n p parts part hlt
        have hcv1 := HCV.out _ (Below.refl _ _)
        clear hH
        go_wp2_with (first
          | (at_builtin; refine Tryz.app_txt rfl _ _ rfl w.heap.size u4 parts.length (Jv.txts parts) rfl wr HH.out.rp hsr ⟨part.toArray⟩ rfl (by omega) ?_; intro v2 w2 hown2 hg2)
          | fail)
        go_ret2
        refine .inl ⟨parts ++ [⟨part.toArray⟩], v2, HP.out.trans (HH.out.eq.symm.trans HF.out), rfl, ?_, HH.out.bl.trans (Jv.below_grown hg2 hsr (Jv.row_block HH.out.rp))⟩
        have e1 : (parts ++ [(⟨part.toArray⟩ : ByteArray)]).length = parts.length + 1 := by simp
        have e2 : Jv.txts (parts ++ [(⟨part.toArray⟩ : ByteArray)]) = Jv.txts parts ++ [.string ⟨part.toArray⟩] := by simp [Jv.txts]
        rw [e1, e2]; exact hown2
end Go.Proofs
