/-
  Laid together by packg.py of Jq Js Ju.
-/
import Derived.Test.YtcakkkafanpjaaaGreatDoorQaG
import Derived.Lib.AppendStr
namespace Go.Jv
def hexL : List UInt8 := [48, 49, 50, 51, 52, 53, 54, 55, 56, 57, 97, 98, 99, 100, 101, 102]
/-- A byte of a text, as it is printed. -/
def qByte (c : UInt8) : List UInt8 :=
  if c = 34 ∨ c = 92 then [92, c] else if c = 8 then [92, 98] else if c = 12 then [92, 102] else if c = 10 then [92, 110] else if c = 13 then [92, 114] else if c = 9 then [92, 116]
  else if c < 32 then [92, 117, 48, 48, hexL.getD (c.toNat / 16) 0, hexL.getD (c.toNat % 16) 0] else [c]
def qBytes (l : List UInt8) : List UInt8 := l.flatMap qByte
def qText (s : ByteArray) : List UInt8 := 34 :: (qBytes s.data.toList ++ [34])
def comma (c : Bool) : List UInt8 := if c then [44] else []
mutual
/-- J2. -/
def pr : V → List UInt8
  | .null => [110, 117, 108, 108]
  | .bool true => [116, 114, 117, 101]
  | .bool false => [102, 97, 108, 115, 101]
  | .int n => Lib.itoa n
  | .text s => qText s
  | .list l => 91 :: (prL false l ++ [93])
  | .obj ks l => 123 :: (prO false ks l ++ [125])
def prL : Bool → List V → List UInt8
  | _, [] => []
  | c, v :: r => comma c ++ pr v ++ prL true r
def prO : Bool → List ByteArray → List V → List UInt8
  | _, _, [] => []
  | _, [], _ :: _ => []
  | c, k :: ks, v :: r => comma c ++ qText k ++ [58] ++ pr v ++ prO true ks r
end
theorem qByte_len (c : UInt8) : 1 ≤ (qByte c).length ∧ (qByte c).length ≤ 6 := by
  unfold qByte
  repeat' split
  all_goals simp
end Go.Jv
namespace Go.Proofs
open Go.RowKit Go.Jv
theorem Tryz.info_u8 : (Tryz.prog.info? 5).map (fun i => (i.zero, i.size, i.bytes)) = some (some (.int .u8 0), 1, 1) := by kernel_rfl
/-- 'append' of bytes that were laid out first. -/
theorem Tryz.app_new {ops : Array Oper} {rest : List Oper} {o : Oper} {a : Act} {Q : Exit → Act → World → Prop} (hgd : o.guard = none) (s x : Operand)
    (ho : o.op = .call { callee := .builtin .append, args := #[s, x], argTypes := #[22, 22] })
    (B : Nat) (v : Value) (n : Nat) (xs : List Value) (hs : a.eval s = v) (w : World) (hrow : w.ownsRow B 5 1 v n xs) (hB : B ≤ w.heap.size) (news : List Value) (m : Nat) (hm : news.length = m) (hx : a.eval x = .slice (some ⟨w.heap.size, 0, none⟩) m m)
    (h0 : 0 < m) (hlen : n + m ≤ 140737488355328) (h1 : ∀ u ∈ news, u.oneCell' = true)
    (h : ∀ v' w', w'.ownsRow B 5 1 v' (n + m) (xs ++ news) → Below B w w' → wpList Tryz.prog ops Q rest (a.put o.dst v') w') : wpList Tryz.prog ops Q (o :: rest) a (w.alloc (.cells news.toArray 5)) := by
  obtain ⟨i0, hi0, hz0, hz1, hz2⟩ := info_parts Tryz.info_u8
  refine wpList_append_lies _ hgd s x 22 ho B 5 i0 _ 1 1 Tryz.underlying22 hi0 hz0 hz1 hz2 rfl (by omega) v n xs hs (Jv.row_alloc hrow _) ⟨w.heap.size, 0, none⟩ m m news hx (by omega) (World.news_of_block (cs := news.toArray) (t := 5) (fr := (0, 0)) (heap_alloc_new w _)) h1 h0 (by unfold maxLen; omega) (by omega) (by simp; omega) (w.heap.size + 1) (by simp) ?_
  intro g cap w' hown hg hat hlt
  exact h _ w' hown (Jv.below_grown hg hB (Jv.row_block hrow))
/-- What the printing functions leave behind a row. -/
def Tryz.Put (B : Nat) (n : Nat) (xs : List Value) (out : List UInt8) (w : World) (en : Ending) (w' : World) : Prop :=
  ∃ v', en = .returned v' ∧ w'.ownsRow B 5 1 v' (n + out.length) (xs ++ Lib.byteCells out) ∧ Below B w w'
theorem Tryz.byte_34 (B n : Nat) (v : Value) (xs : List Value) (w : World) (hrow : w.ownsRow B 5 1 v n xs) (hB : B ≤ w.heap.size) (hlen : n ≤ 1000000000) :
    Calls Tryz.prog 88 #[v, .int .u8 34] w fun en w' => Tryz.Put B n xs [92, 34] w en w' := by
  go_enter Tryz.func88, Tryz.ntmps88
  go_wp2_with (first | (at_builtin; refine Tryz.app_new rfl _ _ rfl B v n xs rfl w hrow hB [.int .u8 92, .int .u8 34] 2 rfl rfl (by decide) (by omega) (by simp [Value.oneCell']) ?_; intro v' w' hown hbe) | fail)
  go_ret
  exact ⟨v', rfl, hown, hbe⟩
theorem Tryz.byte_92 (B n : Nat) (v : Value) (xs : List Value) (w : World) (hrow : w.ownsRow B 5 1 v n xs) (hB : B ≤ w.heap.size) (hlen : n ≤ 1000000000) :
    Calls Tryz.prog 88 #[v, .int .u8 92] w fun en w' => Tryz.Put B n xs [92, 92] w en w' := by
  go_enter Tryz.func88, Tryz.ntmps88
  go_wp2_with (first | (at_builtin; refine Tryz.app_new rfl _ _ rfl B v n xs rfl w hrow hB [.int .u8 92, .int .u8 92] 2 rfl rfl (by decide) (by omega) (by simp [Value.oneCell']) ?_; intro v' w' hown hbe) | fail)
  go_ret
  exact ⟨v', rfl, hown, hbe⟩
theorem Tryz.byte_8 (B n : Nat) (v : Value) (xs : List Value) (w : World) (hrow : w.ownsRow B 5 1 v n xs) (hB : B ≤ w.heap.size) (hlen : n ≤ 1000000000) :
    Calls Tryz.prog 88 #[v, .int .u8 8] w fun en w' => Tryz.Put B n xs [92, 98] w en w' := by
  go_enter Tryz.func88, Tryz.ntmps88
  go_wp2_with (first | (at_builtin; refine Tryz.app_new rfl _ _ rfl B v n xs rfl w hrow hB [.int .u8 92, .int .u8 98] 2 rfl rfl (by decide) (by omega) (by simp [Value.oneCell']) ?_; intro v' w' hown hbe) | fail)
  go_ret
  exact ⟨v', rfl, hown, hbe⟩
theorem Tryz.byte_12 (B n : Nat) (v : Value) (xs : List Value) (w : World) (hrow : w.ownsRow B 5 1 v n xs) (hB : B ≤ w.heap.size) (hlen : n ≤ 1000000000) :
    Calls Tryz.prog 88 #[v, .int .u8 12] w fun en w' => Tryz.Put B n xs [92, 102] w en w' := by
  go_enter Tryz.func88, Tryz.ntmps88
  go_wp2_with (first | (at_builtin; refine Tryz.app_new rfl _ _ rfl B v n xs rfl w hrow hB [.int .u8 92, .int .u8 102] 2 rfl rfl (by decide) (by omega) (by simp [Value.oneCell']) ?_; intro v' w' hown hbe) | fail)
  go_ret
  exact ⟨v', rfl, hown, hbe⟩
theorem Tryz.byte_10 (B n : Nat) (v : Value) (xs : List Value) (w : World) (hrow : w.ownsRow B 5 1 v n xs) (hB : B ≤ w.heap.size) (hlen : n ≤ 1000000000) :
    Calls Tryz.prog 88 #[v, .int .u8 10] w fun en w' => Tryz.Put B n xs [92, 110] w en w' := by
  go_enter Tryz.func88, Tryz.ntmps88
  go_wp2_with (first | (at_builtin; refine Tryz.app_new rfl _ _ rfl B v n xs rfl w hrow hB [.int .u8 92, .int .u8 110] 2 rfl rfl (by decide) (by omega) (by simp [Value.oneCell']) ?_; intro v' w' hown hbe) | fail)
  go_ret
  exact ⟨v', rfl, hown, hbe⟩
theorem Tryz.byte_13 (B n : Nat) (v : Value) (xs : List Value) (w : World) (hrow : w.ownsRow B 5 1 v n xs) (hB : B ≤ w.heap.size) (hlen : n ≤ 1000000000) :
    Calls Tryz.prog 88 #[v, .int .u8 13] w fun en w' => Tryz.Put B n xs [92, 114] w en w' := by
  go_enter Tryz.func88, Tryz.ntmps88
  go_wp2_with (first | (at_builtin; refine Tryz.app_new rfl _ _ rfl B v n xs rfl w hrow hB [.int .u8 92, .int .u8 114] 2 rfl rfl (by decide) (by omega) (by simp [Value.oneCell']) ?_; intro v' w' hown hbe) | fail)
  go_ret
  exact ⟨v', rfl, hown, hbe⟩
theorem Tryz.byte_9 (B n : Nat) (v : Value) (xs : List Value) (w : World) (hrow : w.ownsRow B 5 1 v n xs) (hB : B ≤ w.heap.size) (hlen : n ≤ 1000000000) :
    Calls Tryz.prog 88 #[v, .int .u8 9] w fun en w' => Tryz.Put B n xs [92, 116] w en w' := by
  go_enter Tryz.func88, Tryz.ntmps88
  go_wp2_with (first | (at_builtin; refine Tryz.app_new rfl _ _ rfl B v n xs rfl w hrow hB [.int .u8 92, .int .u8 116] 2 rfl rfl (by decide) (by omega) (by simp [Value.oneCell']) ?_; intro v' w' hown hbe) | fail)
  go_ret
  exact ⟨v', rfl, hown, hbe⟩
end Go.Proofs
namespace Go.Proofs
open Go.RowKit Go.Jv
theorem Tryz.byte_plain (B n : Nat) (v : Value) (xs : List Value) (w : World) (hrow : w.ownsRow B 5 1 v n xs) (hB : B ≤ w.heap.size) (hlen : n ≤ 1000000000) (c : UInt8) (h32 : (32 : Int) ≤ c.toNat) (h34 : ¬ (c.toNat : Int) = 34) (h92 : ¬ (c.toNat : Int) = 92) :
    Calls Tryz.prog 88 #[v, .int .u8 c.toNat] w fun en w' => Tryz.Put B n xs [c] w en w' := by
  have n8 : ¬ (c.toNat : Int) = 8 := by omega
  have n12 : ¬ (c.toNat : Int) = 12 := by omega
  have n10 : ¬ (c.toNat : Int) = 10 := by omega
  have n13 : ¬ (c.toNat : Int) = 13 := by omega
  have n9 : ¬ (c.toNat : Int) = 9 := by omega
  go_enter Tryz.func88, Tryz.ntmps88
  go_wp2_with (first | (at_builtin; refine Tryz.app_new rfl _ _ rfl B v n xs rfl w hrow hB [.int .u8 c.toNat] 1 rfl rfl (by decide) (by omega) (by simp [Value.oneCell']) ?_; intro v' w' hown hbe) | fail)
  go_ret
  exact ⟨v', rfl, hown, hbe⟩
set_option maxRecDepth 100000 in
theorem Jv.and15 : ∀ x : Fin 256, bits .and .u8 ((x.val : Nat) : Int) 15 = ((x.val % 16 : Nat) : Int) := by decide
def Jv.hexB : ByteArray := ⟨#[48, 49, 50, 51, 52, 53, 54, 55, 56, 57, 97, 98, 99, 100, 101, 102]⟩
theorem Jv.hex_at : ∀ a (h : a < 16), (⟨#[48, 49, 50, 51, 52, 53, 54, 55, 56, 57, 97, 98, 99, 100, 101, 102]⟩ : ByteArray)[a]'h = hexL[a]?.getD 0 := by decide
theorem Jv.qBytes_len : ∀ l : List UInt8, (qBytes l).length ≤ 6 * l.length
  | [] => by simp [qBytes]
  | c :: l => by
    have h1 := Jv.qBytes_len l
    have h2 := qByte_len c
    simp only [qBytes, List.flatMap_cons, List.length_append, List.length_cons] at h1 ⊢
    omega
theorem Jv.qBytes_snoc (s : ByteArray) (k : Nat) (h : k < s.size) : qBytes (s.data.toList.take (k + 1)) = qBytes (s.data.toList.take k) ++ qByte (s.get! k) := by
  have e : s.data.toList.take (k + 1) = s.data.toList.take k ++ [s.get! k] := by
    rw [List.take_succ_eq_append_getElem (by rw [Array.length_toList]; exact h)]
    congr 2
    exact Jv.get_eq s k h
  rw [e]
  simp [qBytes]
set_option maxHeartbeats 2000000 in
set_option maxRecDepth 20000 in
theorem Tryz.byte_low (B n : Nat) (v : Value) (xs : List Value) (w : World) (hrow : w.ownsRow B 5 1 v n xs) (hB : B ≤ w.heap.size) (hlen : n ≤ 1000000000) (c : UInt8) (h32 : (c.toNat : Int) < 32)
    (n8 : ¬ (c.toNat : Int) = 8) (n12 : ¬ (c.toNat : Int) = 12) (n10 : ¬ (c.toNat : Int) = 10) (n13 : ¬ (c.toNat : Int) = 13) (n9 : ¬ (c.toNat : Int) = 9) :
    Calls Tryz.prog 88 #[v, .int .u8 c.toNat] w fun en w' => Tryz.Put B n xs [92, 117, 48, 48, hexL.getD (c.toNat / 16) 0, hexL.getD (c.toNat % 16) 0] w en w' := by
  obtain ⟨i0, hi0, hz0, hz1, hz2⟩ := info_parts Tryz.info_u8
  have h34 : ¬ (c.toNat : Int) = 34 := by omega
  have h92 : ¬ (c.toNat : Int) = 92 := by omega
  have hand := Jv.and15 ⟨c.toNat, c.toNat_lt⟩
  simp only at hand
  obtain ⟨a, ha⟩ : ∃ a, a = c.toNat / 16 := ⟨_, rfl⟩
  obtain ⟨d, hd⟩ : ∃ d, d = c.toNat % 16 := ⟨_, rfl⟩
  rw [← hd] at hand
  have hd16 : d < 16 := by omega
  have ha16 : a < 16 := by omega
  have hd0 : (0 : Int) ≤ (d : Int) := by omega
  have hd1 : (d : Int) < 16 := by omega
  have hsh : (c.toNat : Int) / 16 = (a : Int) := by omega
  have ha0 : (0 : Int) ≤ (a : Int) := by omega
  have ha1 : (a : Int) < 16 := by omega
  have HA : Hid (a = c.toNat / 16) := ha
  have HD : Hid (d = c.toNat % 16) := hd
  clear ha hd
  go_enter Tryz.func88, Tryz.ntmps88
  go_wp2_with fail
  go_region_law (first
    | (refine step_append_lies _ (by rfl) _ _ _ (by rfl) B 5 i0 _ 1 1 Tryz.underlying22 hi0 hz0 hz1 hz2 rfl (by omega) v n xs (by rfl) (Jv.row_alloc (Jv.row_kept (w' := w.drew) hrow (fun _ _ _ => rfl)) _) ⟨w.heap.size, 0, none⟩ 6 6 _ (by rfl) (by rfl) (World.news_of_block (t := 5) (fr := (0, 0)) (heap_alloc_new w.drew _)) (by simp [Value.oneCell']) (by omega) (by unfold maxLen; omega) (by omega) (by simp; omega) (w.heap.size + 1) (by simp) ?_; intro g cap w' hown hg hat hlt)
    | fail)
  all_goals
    go_wp2
    go_ret
    refine ⟨_, rfl, ?_, Jv.below_grown (w1 := w) ⟨hg.os, hg.tape, hg.output, hg.size, hg.block⟩ hB (Jv.row_block hrow)⟩
    rw [← HA.out, ← HD.out, ← Jv.hex_at a ha16, ← Jv.hex_at d hd16]
    exact hown
theorem Jv.qByte_plain {c : UInt8} (h1 : ¬ c < 32) (h2 : ¬ c = 34) (h3 : ¬ c = 92) : qByte c = [c] := by
  have h1' : 32 ≤ c.toNat := by have : ¬ c.toNat < 32 := h1; omega
  have hne : ∀ d : UInt8, d.toNat < 32 → ¬ c = d := fun d hd e => by subst e; omega
  unfold qByte
  rw [if_neg (by simp [h2, h3]), if_neg (hne 8 (by decide)), if_neg (hne 12 (by decide)), if_neg (hne 10 (by decide)), if_neg (hne 13 (by decide)), if_neg (hne 9 (by decide)), if_neg h1]
/-- 'appendByte'. -/
theorem Tryz.byte_any (B n : Nat) (v : Value) (xs : List Value) (w : World) (hrow : w.ownsRow B 5 1 v n xs) (hB : B ≤ w.heap.size) (hlen : n ≤ 1000000000) (c : UInt8) :
    Calls Tryz.prog 88 #[v, .int .u8 c.toNat] w fun en w' => Tryz.Put B n xs (qByte c) w en w' := by
  by_cases c34 : c = 34
  · subst c34; exact Tryz.byte_34 B n v xs w hrow hB hlen
  · by_cases c92 : c = 92
    · subst c92; exact Tryz.byte_92 B n v xs w hrow hB hlen
    · by_cases c8 : c = 8
      · subst c8; exact Tryz.byte_8 B n v xs w hrow hB hlen
      · by_cases c12 : c = 12
        · subst c12; exact Tryz.byte_12 B n v xs w hrow hB hlen
        · by_cases c10 : c = 10
          · subst c10; exact Tryz.byte_10 B n v xs w hrow hB hlen
          · by_cases c13 : c = 13
            · subst c13; exact Tryz.byte_13 B n v xs w hrow hB hlen
            · by_cases c9 : c = 9
              · subst c9; exact Tryz.byte_9 B n v xs w hrow hB hlen
              · by_cases h32 : c < 32
                · have e : qByte c = [92, 117, 48, 48, hexL.getD (c.toNat / 16) 0, hexL.getD (c.toNat % 16) 0] := by
                    unfold qByte
                    rw [if_neg (by simp [c34, c92]), if_neg c8, if_neg c12, if_neg c10, if_neg c13, if_neg c9, if_pos h32]
                  rw [e]
                  have h32' : c.toNat < 32 := h32
                  exact Tryz.byte_low B n v xs w hrow hB hlen c (by omega) (Jv.u8_ne c8) (Jv.u8_ne c12) (Jv.u8_ne c10) (Jv.u8_ne c13) (Jv.u8_ne c9)
                · rw [Jv.qByte_plain h32 c34 c92]
                  have h32' : ¬ c.toNat < 32 := h32
                  exact Tryz.byte_plain B n v xs w hrow hB hlen c (by omega) (Jv.u8_ne c34) (Jv.u8_ne c92)
set_option maxHeartbeats 4000000 in
/-- 'appendQuoted'. -/
theorem Tryz.quote_any (B n : Nat) (v : Value) (xs : List Value) (w : World) (hrow : w.ownsRow B 5 1 v n xs) (hB : B ≤ w.heap.size) (s : ByteArray) (hlen : n + 6 * s.size ≤ 900000000) :
    Calls Tryz.prog 64 #[v, .string s] w fun en w' => Tryz.Put B n xs (qText s) w en w' := by
  go_enter Tryz.func64, Tryz.ntmps64
  go_wp2_with (first | (at_builtin; refine Tryz.app_new rfl _ _ rfl B v n xs rfl w hrow hB [.int .u8 34] 1 rfl rfl (by decide) (by omega) (by simp [Value.oneCell']) ?_; intro v1 w1 hown1 hbe1) | fail)
  go_loopw [0, 11] (fun b i wr => ∃ k : Nat, k ≤ s.size ∧ i = .int .i64 k ∧ wr.ownsRow B 5 1 b (n + (34 :: qBytes (s.data.toList.take k)).length) (xs ++ Lib.byteCells (34 :: qBytes (s.data.toList.take k))) ∧ Below B w wr) (fun _ i _ => s.size - (intOf i).toNat)
  case atStart => exact ⟨0, Nat.zero_le _, rfl, hown1, hbe1⟩
  case round =>
    obtain ⟨k, hk, rfl, hown, hbe⟩ := hrel
    have hql := Jv.qBytes_len (s.data.toList.take k)
    have hkl : (s.data.toList.take k).length ≤ k := List.length_take_le _ _
    have hBr : B ≤ wr.heap.size := Nat.le_trans hB hbe.size
    by_cases hlt : k < s.size
    · have hg := Jv.get_eq s k hlt
      have hby := Tryz.byte_any B _ _ _ wr hown hBr (by simp; omega) (s.get! k)
      have HQ : Hid (qBytes (s.data.toList.take (k + 1)) = qBytes (s.data.toList.take k) ++ qByte (s.get! k)) := Jv.qBytes_snoc s k hlt
      generalize s.get! k = c at *
      go_wp2_with (first | (go_at_call 88; refine hby.mono ?_; rintro e2 w2 ⟨v2, rfl, hown2, hbe2⟩) | fail)
      go_roundw
      case rel =>
        refine ⟨k + 1, by omega, by go_num, ?_, hbe.trans hbe2⟩
        rw [HQ.out]
        have e1 : n + (34 :: (qBytes (s.data.toList.take k) ++ qByte c)).length = n + (34 :: qBytes (s.data.toList.take k)).length + (qByte c).length := by simp; omega
        have e2 : xs ++ Lib.byteCells (34 :: (qBytes (s.data.toList.take k) ++ qByte c)) = xs ++ Lib.byteCells (34 :: qBytes (s.data.toList.take k)) ++ Lib.byteCells (qByte c) := by simp [Lib.byteCells]
        rw [e1, e2]
        exact hown2
      case measure => simp [intOf]; omega
    · obtain rfl : k = s.size := by omega
      have hsl : s.data.toList.take s.size = s.data.toList := List.take_of_length_le (by rw [Array.length_toList]; exact Nat.le_refl _)
      rw [hsl] at hown hql
      have hln : n + (34 :: qBytes s.data.toList).length + 1 ≤ 140737488355328 := by
        have h9 : s.data.toList.length = s.size := by rw [Array.length_toList]; rfl
        simp only [List.length_cons]
        omega
      clear hsl hkl hql
      generalize hN : n + (34 :: qBytes s.data.toList).length = N at *
      generalize hX : xs ++ Lib.byteCells (34 :: qBytes s.data.toList) = X at *
      have HN : Hid (n + (34 :: qBytes s.data.toList).length = N) := hN
      have HX : Hid (xs ++ Lib.byteCells (34 :: qBytes s.data.toList) = X) := hX
      clear hN hX
      go_wp2_with (first | (at_builtin; refine Tryz.app_new rfl _ _ rfl B u0 N X (by rfl) wr hown hBr [.int .u8 34] 1 rfl (by rfl) (by decide) hln (by simp [Value.oneCell']) ?_; intro v2 w2 hown2 hbe2) | fail)
      go_ret
      refine ⟨v2, rfl, ?_, hbe.trans hbe2⟩
      have e1 : n + (qText s).length = N + 1 := by rw [← HN.out]; simp [qText]; omega
      have e2 : xs ++ Lib.byteCells (qText s) = X ++ [.int .u8 34] := by rw [← HX.out]; simp [Lib.byteCells, qText]
      rw [e1, e2]
      exact hown2
end Go.Proofs
namespace Go.Proofs
open Go.RowKit Go.Jv
/-- 'append' of a text's bytes. -/
theorem Tryz.app_str {ops : Array Oper} {rest : List Oper} {o : Oper} {a : Act} {Q : Exit → Act → World → Prop} (hgd : o.guard = none) (s x : Operand)
    (ho : o.op = .call { callee := .builtin .append, args := #[s, x], argTypes := #[22, 9] })
    (B : Nat) (v : Value) (n : Nat) (xs : List Value) (hs : a.eval s = v) (w : World) (hrow : w.ownsRow B 5 1 v n xs) (hB : B ≤ w.heap.size) (t : ByteArray) (hx : a.eval x = .string t) (hlen : n + t.size ≤ 140737488355328)
    (h : ∀ v' w', w'.ownsRow B 5 1 v' (n + t.size) (xs ++ Lib.byteCells t.data.toList) → Below B w w' → wpList Tryz.prog ops Q rest (a.put o.dst v') w') : wpList Tryz.prog ops Q (o :: rest) a w := by
  obtain ⟨i0, hi0, hz0, hz1, hz2⟩ := info_parts Tryz.info_u8
  refine Lib.wpList_append_own_string w hgd s x 22 9 ho B 5 i0 Tryz.underlying22 Tryz.underlying9 hi0 hz0 hz1 hz2 v n xs hs hrow t hx (by unfold maxLen; omega) hlen hB ?_
  intro v' w' hown hg _
  exact h v' w' hown ((Below.refl B w).grown hg hB (Jv.row_block hrow))
theorem Tryz.appBool_any (B n : Nat) (v : Value) (xs : List Value) (w : World) (hrow : w.ownsRow B 5 1 v n xs) (hB : B ≤ w.heap.size) (hlen : n ≤ 1000000000) (t : Bool) :
    Calls Tryz.prog 62 #[v, .bool t] w fun en w' => Tryz.Put B n xs (pr (.bool t)) w en w' := by
  have hin : Calls Tryz.prog 86 #[v, .bool t] w fun en w' => Tryz.Put B n xs (pr (.bool t)) w en w' := by
    cases t
    · go_enter Tryz.func86, Tryz.ntmps86
      go_wp2_with (first | (at_builtin; refine Tryz.app_str rfl _ _ rfl B v n xs (by rfl) w hrow hB ⟨#[102, 97, 108, 115, 101]⟩ (by rfl) (by show n + 5 ≤ _; omega) ?_; intro v' w' hown hbe) | fail)
      go_ret
      exact ⟨v', rfl, hown, hbe⟩
    · go_enter Tryz.func86, Tryz.ntmps86
      go_wp2_with (first | (at_builtin; refine Tryz.app_str rfl _ _ rfl B v n xs (by rfl) w hrow hB ⟨#[116, 114, 117, 101]⟩ (by rfl) (by show n + 4 ≤ _; omega) ?_; intro v' w' hown hbe) | fail)
      go_ret
      exact ⟨v', rfl, hown, hbe⟩
  go_enter Tryz.func62, Tryz.ntmps62
  go_wp2_with (first | (go_at_call 86; refine hin.mono ?_; rintro e1 w1 ⟨v1, rfl, hown1, hbe1⟩) | fail)
  go_ret
  exact ⟨v1, rfl, hown1, hbe1⟩
theorem Tryz.kind_any {w : World} {x : Nat} {k : Int} {tr : Bool} {n : Int} {s : ByteArray} {ks is : Value} (h : Jv.Vb w x k tr n s ks is) :
    Calls Tryz.prog 12 #[.pointer (some ⟨x, 0, none⟩)] w fun e w' => e = .returned (.int .i64 k) ∧ w' = w := by
  have hc := h.c0
  clear h
  go_enter Tryz.func12, Tryz.ntmps12
  go_wp2
  go_ret
  exact ⟨rfl, rfl⟩
/-- What 'append' does with a value. -/
def Tryz.PrOk (v : V) : Prop := ∀ (B n : Nat) (bv : Value) (xs : List Value) (w : World) (x : Nat), Tryz.Tr w (fun g => g < B) v x → Tryz.Tb w → 8 ≤ B → w.ownsRow B 5 1 bv n xs → B ≤ w.heap.size → n + 6 * (pr v).length ≤ 900000000 →
    Calls Tryz.prog 25 #[.pointer (some ⟨x, 0, none⟩), bv] w fun en w' => Tryz.Put B n xs (pr v) w en w'
theorem Jv.qText_len (s : ByteArray) : s.size ≤ (qText s).length := by
  have h : ∀ l : List UInt8, l.length ≤ (qBytes l).length := fun l => by
    induction l with
    | nil => simp
    | cons c l ih =>
      have := (qByte_len c).1
      simp only [qBytes, List.flatMap_cons, List.length_append, List.length_cons] at ih ⊢
      omega
  have h1 := h s.data.toList
  have h2 : s.data.toList.length = s.size := by rw [Array.length_toList]; rfl
  simp only [qText, List.length_cons, List.length_append]
  omega
set_option maxHeartbeats 2000000 in
theorem Tryz.pr_scalar (v : V) (hv : ∀ l, v ≠ .list l) (hv2 : ∀ ks l, v ≠ .obj ks l) : Tryz.PrOk v := by
  intro B n bv xs w x hTr hT hBg hrow hB hlen
  cases v with
  | null =>
    obtain ⟨_, hvb⟩ := hTr
    have hk := Tryz.kind_any hvb
    go_enter Tryz.func25, Tryz.ntmps25
    go_wp2_with (first | (go_at_call 12; refine hk.mono ?_; rintro e1 w1 ⟨rfl, rfl⟩) | (at_builtin; refine Tryz.app_str rfl _ _ rfl B bv n xs (by rfl) _ hrow hB ⟨#[110, 117, 108, 108]⟩ (by rfl) (by show n + 4 ≤ _; omega) ?_; intro v' w' hown hbe) | fail)
    go_ret
    exact ⟨v', rfl, hown, hbe⟩
  | bool t =>
    obtain ⟨_, hvb⟩ := hTr
    have hk := Tryz.kind_any hvb
    have hc1 := hvb.c1
    have hap := Tryz.appBool_any B n bv xs w hrow hB (by omega) t
    clear hvb
    go_enter Tryz.func25, Tryz.ntmps25
    go_wp2_with (first | (go_at_call 12; refine hk.mono ?_; rintro e1 w1 ⟨rfl, rfl⟩) | (go_at_call 62; refine hap.mono ?_; rintro e2 w2 ⟨v', rfl, hown, hbe⟩) | fail)
    go_ret
    exact ⟨v', rfl, hown, hbe⟩
  | int m =>
    obtain ⟨⟨_, hm1, hm2⟩, hvb⟩ := hTr
    unfold maxInt at hm1 hm2
    have hk := Tryz.kind_any hvb
    have hc2 := hvb.c2
    have hap := Tryz.strconv_AppendInt_10 B n m (by omega) (by omega) bv xs w hrow hB (by omega) (hT.p10 hBg)
    clear hvb
    go_enter Tryz.func25, Tryz.ntmps25
    go_wp2_with (first | (go_at_call 12; refine hk.mono ?_; rintro e1 w1 ⟨rfl, rfl⟩) | (go_at_call 63; refine hap.mono ?_; rintro e2 w2 ⟨v', rfl, hown, hbe, _⟩) | fail)
    go_ret
    exact ⟨v', rfl, hown, hbe⟩
  | text s =>
    obtain ⟨_, hvb⟩ := hTr
    have hk := Tryz.kind_any hvb
    have hc3 := hvb.c3
    have hql : s.size ≤ (pr (.text s)).length := Jv.qText_len s
    have hap := Tryz.quote_any B n bv xs w hrow hB s (by omega)
    clear hvb
    go_enter Tryz.func25, Tryz.ntmps25
    go_wp2_with (first | (go_at_call 12; refine hk.mono ?_; rintro e1 w1 ⟨rfl, rfl⟩) | (go_at_call 64; refine hap.mono ?_; rintro e2 w2 ⟨v', rfl, hown, hbe⟩) | fail)
    go_ret
    exact ⟨v', rfl, hown, hbe⟩
  | list l => exact absurd rfl (hv l)
  | obj ks l => exact absurd rfl (hv2 ks l)
end Go.Proofs
