/-
  PRINTING: the plain functions; 'appendByte', 'appendQuoted'.
-/
import Derived.Test.YtejibjeidklnkaaGreatDoorJp
import Derived.Lib.AppendStr
namespace Go.Jv
def hexL : List UInt8 := [48, 49, 50, 51, 52, 53, 54, 55, 56, 57, 97, 98, 99, 100, 101, 102]
/-- A byte of a text, as it is printed. -/
def qByte (c : UInt8) : List UInt8 :=
  if c = 34 ∨ c = 92 then [92, c] else if c = 8 then [92, 98] else if c = 12 then [92, 102] else if c = 10 then [92, 110] else if c = 13 then [92, 114] else if c = 9 then [92, 116]
  else if c < 32 then [92, 117, 48, 48, hexL.getD (c.toNat / 16) 0, hexL.getD (c.toNat % 16) 0] else [c]
def qBytes (l : List UInt8) : List UInt8 := l.flatMap qByte
def qText (s : ByteArray) : List UInt8 := 34 :: (qBytes s.data.toList ++ [34])
def comma (c : Bool) : List UInt8 := if c then [44] else []
mutual
/-- J2. -/
def pr : V → List UInt8
  | .null => [110, 117, 108, 108]
  | .bool true => [116, 114, 117, 101]
  | .bool false => [102, 97, 108, 115, 101]
  | .int n => Lib.itoa n
  | .text s => qText s
  | .list l => 91 :: (prL false l ++ [93])
  | .obj ks l => 123 :: (prO false ks l ++ [125])
def prL : Bool → List V → List UInt8
  | _, [] => []
  | c, v :: r => comma c ++ pr v ++ prL true r
def prO : Bool → List ByteArray → List V → List UInt8
  | _, _, [] => []
  | _, [], _ :: _ => []
  | c, k :: ks, v :: r => comma c ++ qText k ++ [58] ++ pr v ++ prO true ks r
end
theorem qByte_len (c : UInt8) : 1 ≤ (qByte c).length ∧ (qByte c).length ≤ 6 := by
  unfold qByte
  repeat' split
  all_goals simp
end Go.Jv
namespace Go.Proofs
open Go.RowKit Go.Jv
theorem Tryz.info_u8 : (Tryz.prog.info? 5).map (fun i => (i.zero, i.size, i.bytes)) = some (some (.int .u8 0), 1, 1) := by kernel_rfl
/-- 'append' of bytes that were laid out first. -/
theorem Tryz.app_new {ops : Array Oper} {rest : List Oper} {o : Oper} {a : Act} {Q : Exit → Act → World → Prop} (hgd : o.guard = none) (s x : Operand)
    (ho : o.op = .call { callee := .builtin .append, args := #[s, x], argTypes := #[32, 32] })
    (B : Nat) (v : Value) (n : Nat) (xs : List Value) (hs : a.eval s = v) (w : World) (hrow : w.ownsRow B 5 1 v n xs) (hB : B ≤ w.heap.size) (news : List Value) (m : Nat) (hm : news.length = m) (hx : a.eval x = .slice (some ⟨w.heap.size, 0, none⟩) m m)
    (h0 : 0 < m) (hlen : n + m ≤ 140737488355328) (h1 : ∀ u ∈ news, u.oneCell' = true)
    (h : ∀ v' w', w'.ownsRow B 5 1 v' (n + m) (xs ++ news) → Below B w w' → wpList Tryz.prog ops Q rest (a.put o.dst v') w') : wpList Tryz.prog ops Q (o :: rest) a (w.alloc (.cells news.toArray 5)) := by
  obtain ⟨i0, hi0, hz0, hz1, hz2⟩ := info_parts Tryz.info_u8
  refine wpList_append_lies _ hgd s x 32 ho B 5 i0 _ 1 1 Tryz.underlying32 hi0 hz0 hz1 hz2 rfl (by omega) v n xs hs (Jv.row_alloc hrow _) ⟨w.heap.size, 0, none⟩ m m news hx (by omega) (World.news_of_block (cs := news.toArray) (t := 5) (fr := (0, 0)) (heap_alloc_new w _)) h1 h0 (by unfold maxLen; omega) (by omega) (by simp; omega) (w.heap.size + 1) (by simp) ?_
  intro g cap w' hown hg hat hlt
  exact h _ w' hown (Jv.below_grown hg hB (Jv.row_block hrow))
/-- What the printing functions leave behind a row. -/
def Tryz.Put (B : Nat) (n : Nat) (xs : List Value) (out : List UInt8) (w : World) (en : Ending) (w' : World) : Prop :=
  ∃ v', en = .returned v' ∧ w'.ownsRow B 5 1 v' (n + out.length) (xs ++ Lib.byteCells out) ∧ Below B w w'
theorem Tryz.byte_34 (B n : Nat) (v : Value) (xs : List Value) (w : World) (hrow : w.ownsRow B 5 1 v n xs) (hB : B ≤ w.heap.size) (hlen : n ≤ 1000000000) :
    Calls Tryz.prog 35 #[v, .int .u8 34] w fun en w' => Tryz.Put B n xs [92, 34] w en w' := by
  go_enter Tryz.func35, Tryz.ntmps35
  go_wp2_with (first | (at_builtin; refine Tryz.app_new rfl _ _ rfl B v n xs rfl w hrow hB [.int .u8 92, .int .u8 34] 2 rfl rfl (by decide) (by omega) (by simp [Value.oneCell']) ?_; intro v' w' hown hbe) | fail)
  go_ret
  exact ⟨v', rfl, hown, hbe⟩
theorem Tryz.byte_92 (B n : Nat) (v : Value) (xs : List Value) (w : World) (hrow : w.ownsRow B 5 1 v n xs) (hB : B ≤ w.heap.size) (hlen : n ≤ 1000000000) :
    Calls Tryz.prog 35 #[v, .int .u8 92] w fun en w' => Tryz.Put B n xs [92, 92] w en w' := by
  go_enter Tryz.func35, Tryz.ntmps35
  go_wp2_with (first | (at_builtin; refine Tryz.app_new rfl _ _ rfl B v n xs rfl w hrow hB [.int .u8 92, .int .u8 92] 2 rfl rfl (by decide) (by omega) (by simp [Value.oneCell']) ?_; intro v' w' hown hbe) | fail)
  go_ret
  exact ⟨v', rfl, hown, hbe⟩
theorem Tryz.byte_8 (B n : Nat) (v : Value) (xs : List Value) (w : World) (hrow : w.ownsRow B 5 1 v n xs) (hB : B ≤ w.heap.size) (hlen : n ≤ 1000000000) :
    Calls Tryz.prog 35 #[v, .int .u8 8] w fun en w' => Tryz.Put B n xs [92, 98] w en w' := by
  go_enter Tryz.func35, Tryz.ntmps35
  go_wp2_with (first | (at_builtin; refine Tryz.app_new rfl _ _ rfl B v n xs rfl w hrow hB [.int .u8 92, .int .u8 98] 2 rfl rfl (by decide) (by omega) (by simp [Value.oneCell']) ?_; intro v' w' hown hbe) | fail)
  go_ret
  exact ⟨v', rfl, hown, hbe⟩
theorem Tryz.byte_12 (B n : Nat) (v : Value) (xs : List Value) (w : World) (hrow : w.ownsRow B 5 1 v n xs) (hB : B ≤ w.heap.size) (hlen : n ≤ 1000000000) :
    Calls Tryz.prog 35 #[v, .int .u8 12] w fun en w' => Tryz.Put B n xs [92, 102] w en w' := by
  go_enter Tryz.func35, Tryz.ntmps35
  go_wp2_with (first | (at_builtin; refine Tryz.app_new rfl _ _ rfl B v n xs rfl w hrow hB [.int .u8 92, .int .u8 102] 2 rfl rfl (by decide) (by omega) (by simp [Value.oneCell']) ?_; intro v' w' hown hbe) | fail)
  go_ret
  exact ⟨v', rfl, hown, hbe⟩
theorem Tryz.byte_10 (B n : Nat) (v : Value) (xs : List Value) (w : World) (hrow : w.ownsRow B 5 1 v n xs) (hB : B ≤ w.heap.size) (hlen : n ≤ 1000000000) :
    Calls Tryz.prog 35 #[v, .int .u8 10] w fun en w' => Tryz.Put B n xs [92, 110] w en w' := by
  go_enter Tryz.func35, Tryz.ntmps35
  go_wp2_with (first | (at_builtin; refine Tryz.app_new rfl _ _ rfl B v n xs rfl w hrow hB [.int .u8 92, .int .u8 110] 2 rfl rfl (by decide) (by omega) (by simp [Value.oneCell']) ?_; intro v' w' hown hbe) | fail)
  go_ret
  exact ⟨v', rfl, hown, hbe⟩
theorem Tryz.byte_13 (B n : Nat) (v : Value) (xs : List Value) (w : World) (hrow : w.ownsRow B 5 1 v n xs) (hB : B ≤ w.heap.size) (hlen : n ≤ 1000000000) :
    Calls Tryz.prog 35 #[v, .int .u8 13] w fun en w' => Tryz.Put B n xs [92, 114] w en w' := by
  go_enter Tryz.func35, Tryz.ntmps35
  go_wp2_with (first | (at_builtin; refine Tryz.app_new rfl _ _ rfl B v n xs rfl w hrow hB [.int .u8 92, .int .u8 114] 2 rfl rfl (by decide) (by omega) (by simp [Value.oneCell']) ?_; intro v' w' hown hbe) | fail)
  go_ret
  exact ⟨v', rfl, hown, hbe⟩
theorem Tryz.byte_9 (B n : Nat) (v : Value) (xs : List Value) (w : World) (hrow : w.ownsRow B 5 1 v n xs) (hB : B ≤ w.heap.size) (hlen : n ≤ 1000000000) :
    Calls Tryz.prog 35 #[v, .int .u8 9] w fun en w' => Tryz.Put B n xs [92, 116] w en w' := by
  go_enter Tryz.func35, Tryz.ntmps35
  go_wp2_with (first | (at_builtin; refine Tryz.app_new rfl _ _ rfl B v n xs rfl w hrow hB [.int .u8 92, .int .u8 116] 2 rfl rfl (by decide) (by omega) (by simp [Value.oneCell']) ?_; intro v' w' hown hbe) | fail)
  go_ret
  exact ⟨v', rfl, hown, hbe⟩
end Go.Proofs
