/-
  A DISK, PLAIN: what lasts as one row of bytes, the writes that were not synced; nothing of the program.
-/
import Derived.WalkKit
namespace Go.Dk
/-- Bytes over those that lie at block 'a'. -/
def put (L : List UInt8) (a : Nat) (b : List UInt8) : List UInt8 := L.take (64 * a) ++ b ++ L.drop (64 * a + b.length)
def blk (L : List UInt8) (i : Nat) : List UInt8 := (L.drop (64 * i)).take 64
abbrev Wr := Nat × List UInt8
def sink (L : List UInt8) (W : List Wr) : List UInt8 := W.foldl (fun L p => put L p.1 p.2) L
/-- The last write of a block, counted from 1; 0: there is none. -/
def lat : List Wr → Nat → Nat
  | [], _ => 0
  | p :: r, i => if lat r i = 0 then (if p.1 = i then 1 else 0) else lat r i + 1
/-- Writes of whole blocks of a disk of 'n'. -/
def GoodW (n : Nat) (W : List Wr) : Prop := ∀ p ∈ W, p.1 < n ∧ p.2.length = 64

theorem get_put {L : List UInt8} {a : Nat} {b : List UInt8} (h : 64 * a + b.length ≤ L.length) (j : Nat) :
    (put L a b)[j]? = if j < 64 * a then L[j]? else if j < 64 * a + b.length then b[j - 64 * a]? else L[j]? := by
  unfold put
  rw [List.append_assoc, List.getElem?_append]
  have h1 : (L.take (64 * a)).length = 64 * a := by rw [List.length_take]; omega
  rw [h1]
  split
  · rw [List.getElem?_take, if_pos (by assumption)]
  · rw [List.getElem?_append]
    split
    · rw [if_pos (by omega)]
    · rw [if_neg (by omega), List.getElem?_drop]
      congr 1
      omega
theorem length_put {L : List UInt8} {a : Nat} {b : List UInt8} (h : 64 * a + b.length ≤ L.length) : (put L a b).length = L.length := by
  simp only [put, List.length_append, List.length_take, List.length_drop]
  omega
theorem get_blk (L : List UInt8) (i j : Nat) : (blk L i)[j]? = if j < 64 then L[64 * i + j]? else none := by
  rw [blk, List.getElem?_take, List.getElem?_drop]
theorem blk_length {L : List UInt8} {n i : Nat} (h : L.length = 64 * n) (hi : i < n) : (blk L i).length = 64 := by
  rw [blk, List.length_take, List.length_drop]; omega
theorem blk_put_same {L : List UInt8} {a : Nat} {b : List UInt8} (h : 64 * a + 64 ≤ L.length) (hb : b.length = 64) : blk (put L a b) a = b := by
  apply List.ext_getElem?
  intro j
  rw [get_blk, get_put (by omega)]
  by_cases hj : j < 64
  · rw [if_pos hj, if_neg (by omega), if_pos (by omega)]
    congr 1
    omega
  · rw [if_neg hj, List.getElem?_eq_none (by omega)]
theorem blk_put_other {L : List UInt8} {a i : Nat} {b : List UInt8} (h : 64 * a + b.length ≤ L.length) (hb : b.length ≤ 64) (hi : a ≠ i) : blk (put L a b) i = blk L i := by
  apply List.ext_getElem?
  intro j
  rw [get_blk, get_blk]
  split
  · rw [get_put h]
    split
    · rfl
    · rw [if_neg (by omega)]
  · rfl
theorem sink_nil (L : List UInt8) : sink L [] = L := rfl
theorem sink_append (L : List UInt8) (V W : List Wr) : sink L (V ++ W) = sink (sink L V) W := by simp [sink]
theorem sink_one (L : List UInt8) (W : List Wr) (p : Wr) : sink L (W ++ [p]) = put (sink L W) p.1 p.2 := by simp [sink]
theorem GoodW.nil (n : Nat) : GoodW n [] := by simp [GoodW]
theorem GoodW.append {n : Nat} {V W : List Wr} (h : GoodW n V) (h' : GoodW n W) : GoodW n (V ++ W) := fun p hp => by
  rcases List.mem_append.1 hp with h1 | h1
  · exact h p h1
  · exact h' p h1
theorem GoodW.one {n a : Nat} {b : List UInt8} (ha : a < n) (hb : b.length = 64) : GoodW n [(a, b)] := by intro p hp; simp at hp; subst hp; exact ⟨ha, hb⟩
theorem GoodW.take {n : Nat} {W : List Wr} (h : GoodW n W) (k : Nat) : GoodW n (W.take k) := fun p hp => h p (List.mem_of_mem_take hp)
theorem GoodW.drop {n : Nat} {W : List Wr} (h : GoodW n W) (k : Nat) : GoodW n (W.drop k) := fun p hp => h p (List.mem_of_mem_drop hp)
theorem sink_length {n : Nat} : ∀ (W : List Wr) (L : List UInt8), L.length = 64 * n → GoodW n W → (sink L W).length = 64 * n
  | [], _, h, _ => h
  | p :: r, L, h, hg => by
    have hp := hg p (by simp)
    refine sink_length r (put L p.1 p.2) ?_ (fun q hq => hg q (by simp [hq]))
    rw [length_put (by rw [hp.2, h]; omega), h]
theorem lat_le : ∀ (W : List Wr) (i : Nat), lat W i ≤ W.length
  | [], _ => by simp [lat]
  | p :: r, i => by
    have := lat_le r i
    simp only [lat, List.length_cons]
    split <;> (try split) <;> omega
theorem lat_one : ∀ (W : List Wr) (p : Wr) (i : Nat), lat (W ++ [p]) i = if p.1 = i then W.length + 1 else lat W i
  | [], p, i => by simp [lat]
  | q :: r, p, i => by
    simp only [List.cons_append, lat, lat_one r p i, List.length_cons]
    by_cases h : p.1 = i
    · simp [h]
    · simp [h]
theorem lat_other : ∀ (W : List Wr) (i : Nat), (∀ p ∈ W, p.1 ≠ i) → lat W i = 0
  | [], _, _ => rfl
  | p :: r, i, h => by
    simp only [lat, lat_other r i (fun q hq => h q (by simp [hq])), if_neg (h p (by simp)), if_true]
/-- What a block is read as: its last write, or what lasts. -/
theorem read_view {n : Nat} {L : List UInt8} (hL : L.length = 64 * n) {i : Nat} (hi : i < n) (W : List Wr) (hg : GoodW n W) :
    blk (sink L W) i = if lat W i = 0 then blk L i else (W.getD (lat W i - 1) (0, [])).2 := by
  obtain ⟨m, hm⟩ : ∃ m, W.length = m := ⟨_, rfl⟩
  induction m generalizing W with
  | zero =>
    have : W = [] := List.eq_nil_of_length_eq_zero hm
    subst this; simp [sink, lat]
  | succ m ih =>
    obtain ⟨V, p, rfl⟩ : ∃ V p, W = V ++ [p] := ⟨W.dropLast, W.getLast (by intro e; simp [e] at hm), (List.dropLast_concat_getLast _).symm⟩
    have hV : GoodW n V := fun q hq => hg q (by simp [hq])
    have hp := hg p (by simp)
    have hs := sink_length V L hL hV
    have hv := ih V hV (by simp at hm; exact hm)
    rw [sink_one, lat_one]
    by_cases h : p.1 = i
    · subst h
      rw [blk_put_same (by rw [hs]; omega) hp.2, if_pos rfl, if_neg (by omega)]
      simp [List.getD]
    · rw [blk_put_other (by rw [hs, hp.2]; omega) (by omega) h, hv, if_neg h]
      by_cases h0 : lat V i = 0
      · rw [if_pos h0, if_pos h0]
      · rw [if_neg h0, if_neg h0]
        have := lat_le V i
        simp only [List.getD]
        rw [List.getElem?_append_left (by omega)]

/-- A disk. -/
structure DS where
  n : Nat
  L : List UInt8
  W : List Wr
  dead : Bool
  fset : Bool
  fl : Int
  fk : Int
  ft : Int
  wrote : Nat
  synced : Nat
  falls : Nat
  /-- how much room the row of last writes has -/
  ct : Nat
def DS.view (s : DS) : List UInt8 := sink s.L s.W
/-- How many writes a crash keeps. -/
def kept (k : Int) (m : Nat) : Nat := min k.toNat m
def tornN (t : Int) : Nat := min t.toNat 64
def failL (L : List UInt8) (W : List Wr) (k t : Int) : List UInt8 :=
  match W.drop (kept k W.length) with
  | [] => sink L (W.take (kept k W.length))
  | p :: _ => put (sink L (W.take (kept k W.length))) p.1 (p.2.take (tornN t))
def DS.fail (s : DS) (k t : Int) : DS := { s with L := failL s.L s.W k t, W := [], dead := true, fset := false, fl := 0, fk := 0, ft := 0, falls := s.falls + 1 }
def DS.sync (s : DS) : DS := { s with L := s.view, W := [], synced := s.synced + 1 }
def pad (b : List UInt8) : List UInt8 := b ++ List.replicate (64 - b.length) 0
/-- One write more, ahead of the fuse. -/
def DS.lay (s : DS) (i : Nat) (b : List UInt8) : DS := { s with W := s.W ++ [(i, pad b)] }
/-- A write that the fuse lets by. -/
def DS.put (s : DS) (i : Nat) (b : List UInt8) : DS := { s with W := s.W ++ [(i, pad b)], fl := if s.fset then s.fl - 1 else s.fl, wrote := s.wrote + 1 }
def DS.restart (s : DS) : DS := { s with dead := false, fset := false, fl := 0, fk := 0, ft := 0 }
theorem pad_length {b : List UInt8} (h : b.length ≤ 64) : (pad b).length = 64 := by simp [pad]; omega
theorem failL_length {n : Nat} {L : List UInt8} {W : List Wr} (hL : L.length = 64 * n) (hg : GoodW n W) (k t : Int) : (failL L W k t).length = 64 * n := by
  have h1 := sink_length (W.take (kept k W.length)) L hL (hg.take _)
  unfold failL
  split
  · exact h1
  · rename_i p r hd
    have hp := hg p (List.mem_of_mem_drop (by rw [hd]; simp))
    rw [length_put, h1]
    rw [List.length_take, h1]; omega
theorem view_lay (s : DS) (i : Nat) (b : List UInt8) : (s.lay i b).view = put s.view i (pad b) := sink_one _ _ _
end Go.Dk
