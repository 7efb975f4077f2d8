/-
  PUTS, PLAIN: what a row of writes and syncs makes of a disk, and what a crash leaves of it.
-/
import Derived.Test.YtjidghhgoofhlaaDl
namespace Go.Dk
open Go.Proofs
structure Pt where
  I : Int
  N : Int
  C : Int
  S : Bool
def wrp (p : Pt) : Wr := (Proofs.Dk.pickN p.I 8, pad (Proofs.Dk.bytesOf p.N p.C))
def ws (l : List Pt) : List Wr := (l.filter fun p => !p.S).map wrp
def stepD (s : DS) (p : Pt) : DS := if p.S then s.sync else s.put (Proofs.Dk.pickN p.I 8) (Proofs.Dk.bytesOf p.N p.C)
def runD (s : DS) (l : List Pt) : DS := l.foldl stepD s
def nul : List UInt8 := List.replicate 512 0
/-- Behind the last Sync. -/
def lastOf (l : List Pt) : Nat := (l.foldl (fun (q : Nat × Nat) p => (q.1 + 1, if p.S then q.1 + 1 else q.2)) (0, 0)).2
theorem wrp_good (p : Pt) : (wrp p).1 < 8 ∧ (wrp p).2.length = 64 := ⟨Proofs.Dk.pickN_lt _ (by omega), pad_length (Proofs.Dk.bytesOf_len _ _)⟩
theorem ws_good (l : List Pt) : GoodW 8 (ws l) := fun q hq => by
  obtain ⟨p, _, rfl⟩ := List.mem_map.1 hq
  exact wrp_good p
theorem ws_append (l r : List Pt) : ws (l ++ r) = ws l ++ ws r := by simp [ws]
theorem ws_len (l : List Pt) : (ws l).length ≤ l.length := by
  simp only [ws, List.length_map]; exact List.length_filter_le _ _
theorem ws_one (p : Pt) (h : p.S = false) : ws [p] = [wrp p] := by simp [ws, h]
theorem ws_sync (p : Pt) (h : p.S = true) : ws [p] = [] := by simp [ws, h]
theorem fold_fst (l : List Pt) (a b : Nat) : (l.foldl (fun (q : Nat × Nat) p => (q.1 + 1, if p.S then q.1 + 1 else q.2)) (a, b)).1 = a + l.length := by
  induction l generalizing a b with
  | nil => rfl
  | cons p r ih => rw [List.foldl_cons, ih]; simp; omega
theorem lastOf_one (l : List Pt) (p : Pt) : lastOf (l ++ [p]) = if p.S then l.length + 1 else lastOf l := by
  unfold lastOf
  rw [List.foldl_append, List.foldl_cons, List.foldl_nil]
  simp only [fold_fst, Nat.zero_add]
/-- From the first on, one more each time. -/
theorem snoc_ind {α : Type} {P : List α → Prop} (h0 : P []) (h1 : ∀ l p, P l → P (l ++ [p])) (l : List α) : P l := by
  have : ∀ r : List α, P r.reverse := fun r => by
    induction r with
    | nil => exact h0
    | cons p r ih => rw [List.reverse_cons]; exact h1 _ _ ih
  have := this l.reverse
  rwa [List.reverse_reverse] at this
theorem lastOf_le (l : List Pt) : lastOf l ≤ l.length := by
  induction l using snoc_ind with
  | h0 => exact Nat.le_refl _
  | h1 l p ih =>
    rw [lastOf_one]
    simp only [List.length_append, List.length_cons, List.length_nil]
    split <;> omega
/-- Writes alone, on the disk that 'fresh' makes. -/
def ofW (W : List Wr) : DS := { Proofs.Dk.ds8 with W := W, wrote := 2 + W.length }
theorem ofW_put (W : List Wr) (i : Nat) (b : List UInt8) : (ofW W).put i b = ofW (W ++ [(i, pad b)]) := by
  have h : 2 + W.length + 1 = 2 + (W ++ [(i, pad b)]).length := by rw [List.length_append]; rfl
  unfold ofW DS.put
  rw [← h]; rfl
theorem ofW_nil : ofW [] = Proofs.Dk.ds8 := rfl
theorem ofW_view (W : List Wr) : (ofW W).view = sink nul W := rfl
/-- The disk behind a row of puts. -/
theorem runD_eq (l : List Pt) : ∃ y, y ≤ l.length ∧ runD Proofs.Dk.ds8 l = ⟨8, sink nul (ws (l.take (lastOf l))), ws (l.drop (lastOf l)), false, false, 0, 0, 0, 2 + (ws l).length, 1 + y, 0, 8⟩ := by
  induction l using snoc_ind with
  | h0 => exact ⟨0, Nat.le_refl _, rfl⟩
  | h1 l p ih =>
    obtain ⟨y, hy, e⟩ := ih
    have hl := lastOf_le l
    rw [runD, List.foldl_append, List.foldl_cons, List.foldl_nil, ← runD, e, lastOf_one, stepD]
    by_cases hp : p.S = true
    · refine ⟨y + 1, by simp; omega, ?_⟩
      rw [if_pos hp, if_pos hp]
      rw [show l.length + 1 = (l ++ [p]).length by simp, List.take_length, List.drop_length, ws_append, ws_sync p hp, List.append_nil]
      simp only [DS.sync, DS.view]
      rw [← sink_append, ← ws_append, List.take_append_drop]
      rfl
    · have hp' : p.S = false := by simpa using hp
      refine ⟨y, by simp; omega, ?_⟩
      rw [if_neg hp, if_neg hp, List.take_append_of_le_length hl, List.drop_append_of_le_length hl, ws_append, ws_append, ws_one p hp']
      simp [DS.put, wrp]
      omega
theorem runD_one (s : DS) (l : List Pt) (p : Pt) : runD s (l ++ [p]) = stepD (runD s l) p := by simp [runD]
/-- All that was written stays. -/
theorem fails_all (l : List Pt) (K T : Int) (h : (ws (l.drop (lastOf l))).length ≤ K.toNat) :
    failL (sink nul (ws (l.take (lastOf l)))) (ws (l.drop (lastOf l))) K T = sink nul (ws l) := by
  unfold failL
  have hk : kept K (ws (l.drop (lastOf l))).length = (ws (l.drop (lastOf l))).length := by unfold kept; omega
  rw [hk, List.drop_length, List.take_length]
  simp only
  rw [← sink_append, ← ws_append, List.take_append_drop]
theorem torn_same {X : List UInt8} {a : Nat} {b : List UInt8} {n : Nat} (ha : 64 * a + 64 ≤ X.length) (hb : b.length = 64) (hn : n ≤ 64) : put X a (b.take n ++ (blk X a).drop n) = put X a (b.take n) := by
  have hbl : (blk X a).length = 64 := by rw [blk, List.length_take, List.length_drop]; omega
  have h1 : (b.take n).length = n := by rw [List.length_take]; omega
  have h2 : (b.take n ++ (blk X a).drop n).length = 64 := by rw [List.length_append, h1, List.length_drop, hbl]; omega
  apply List.ext_getElem?
  intro j
  rw [get_put (by rw [h2]; exact ha), get_put (by rw [h1]; omega), h2, h1]
  split
  · rfl
  · split
    · rw [List.getElem?_append, h1]
      by_cases hj : j < 64 * a + n
      · rw [if_pos (by omega), if_pos hj]
      · rw [if_neg (by omega), if_neg hj, List.getElem?_drop, get_blk, if_pos (by omega)]
        congr 1
        omega
    · rw [if_neg (by omega)]
/-- The one that is torn. -/
theorem fails_torn (l : List Pt) (K T : Int) (i : Nat) (p : Pt) (hi : l[i]? = some p) (hp : p.S = false) (hl : lastOf l ≤ i) (h : (ws ((l.take i).drop (lastOf l))).length = K.toNat) :
    failL (sink nul (ws (l.take (lastOf l)))) (ws (l.drop (lastOf l))) K T = put (sink nul (ws (l.take i))) (wrp p).1 ((wrp p).2.take (tornN T) ++ (blk (sink nul (ws (l.take i))) (wrp p).1).drop (tornN T)) := by
  obtain ⟨hlt, e⟩ := List.getElem?_eq_some_iff.1 hi
  have hsplit : l.drop (lastOf l) = (l.take i).drop (lastOf l) ++ l.drop i := by
    rw [← List.drop_append_of_le_length (by rw [List.length_take]; omega), List.take_append_drop]
  have hd : l.drop i = p :: l.drop (i + 1) := by rw [List.drop_eq_getElem_cons hlt, e]
  have hws : ws (l.drop (lastOf l)) = ws ((l.take i).drop (lastOf l)) ++ (wrp p :: ws (l.drop (i + 1))) := by
    rw [hsplit, ws_append, hd]
    congr 1
    rw [show p :: l.drop (i + 1) = [p] ++ l.drop (i + 1) from rfl, ws_append, ws_one p hp]; rfl
  have hk : kept K (ws (l.drop (lastOf l))).length = (ws ((l.take i).drop (lastOf l))).length := by
    unfold kept; rw [hws, List.length_append, List.length_cons]; omega
  have hX : sink (sink nul (ws (l.take (lastOf l)))) (ws ((l.take i).drop (lastOf l))) = sink nul (ws (l.take i)) := by
    rw [← sink_append, ← ws_append]
    congr 2
    have : l.take (lastOf l) = (l.take i).take (lastOf l) := by rw [List.take_take, Nat.min_eq_left hl]
    rw [this, List.take_append_drop]
  have hlen : (sink nul (ws (l.take i))).length = 512 := sink_length (n := 8) _ _ (by rw [nul, List.length_replicate]) (ws_good _)
  have hg := wrp_good p
  rw [torn_same (n := tornN T) (by rw [hlen]; omega) hg.2 (Nat.min_le_right _ _)]
  unfold failL
  rw [hk, hws, List.drop_left, List.take_left]
  simp only
  rw [hX]
end Go.Dk
