/-
  A JOURNAL, PLAIN: numbers, sums, records, heads, what is told of a disk; the calls as rows of writes and syncs.
-/
import Derived.Test.YtbnokhaimcpggaaDm
namespace Go.Dk
/-- The low byte first. -/
def num : List UInt8 → Nat
  | [] => 0
  | b :: r => b.toNat + 256 * num r
def le : Nat → Nat → List UInt8
  | 0, _ => []
  | k + 1, n => UInt8.ofNat n :: le k (n / 256)
theorem le_len : ∀ k n, (le k n).length = k
  | 0, _ => rfl
  | k + 1, n => by simp [le, le_len k]
theorem num_lt : ∀ b : List UInt8, num b < 256 ^ b.length
  | [] => by simp [num]
  | b :: r => by
    have := num_lt r
    have h := b.toNat_lt
    simp only [num, List.length_cons, Nat.pow_succ]
    omega
theorem num_le : ∀ k n, num (le k n) = n % 256 ^ k
  | 0, n => by simp [num, le, Nat.mod_one]
  | k + 1, n => by
    have h8 : (UInt8.ofNat n).toNat = n % 256 := UInt8.toNat_ofNat'
    rw [le, num, num_le k, h8, Nat.pow_succ, Nat.mul_comm (256 ^ k) 256, Nat.mod_mul]
theorem le_num : ∀ b : List UInt8, le b.length (num b) = b
  | [] => rfl
  | b :: r => by
    have h := b.toNat_lt
    rw [List.length_cons, le, num, show (b.toNat + 256 * num r) / 256 = num r by omega, le_num r]
    congr 1
    apply UInt8.toNat_inj.1
    rw [UInt8.toNat_ofNat']
    omega
theorem num_take : ∀ (b : List UInt8) (k : Nat) (x : UInt8), b[k]? = some x → num (b.take (k + 1)) = num (b.take k) + 256 ^ k * x.toNat
  | [], k, x, h => by simp at h
  | c :: r, 0, x, h => by simp at h; subst h; simp [num]
  | c :: r, k + 1, x, h => by
    have := num_take r k x (by simpa using h)
    simp only [List.take_succ_cons, num] at this ⊢
    rw [this, Nat.pow_succ, Nat.mul_add, Nat.add_assoc, Nat.mul_comm (256 ^ k) 256, Nat.mul_assoc]
theorem le_get : ∀ (k n i : Nat), i < k → (le k n)[i]? = some (UInt8.ofNat (n / 256 ^ i))
  | 0, _, _, h => by omega
  | k + 1, n, 0, _ => by simp [le]
  | k + 1, n, i + 1, h => by
    rw [le, List.getElem?_cons_succ, le_get k (n / 256) i (by omega), Nat.div_div_eq_div_mul, Nat.pow_succ, Nat.mul_comm]
/-- The sum of bytes. -/
def fnvB (s : Nat) (x : UInt8) : Nat := (s ^^^ x.toNat) * 16777619 % 4294967296
def fnv (b : List UInt8) : Nat := b.foldl fnvB 2166136261
theorem foldl_snoc {α β : Type} (f : β → α → β) (s : β) (b : List α) (x : α) : (b ++ [x]).foldl f s = f (b.foldl f s) x := by simp
theorem fnv_snoc (b : List UInt8) (x : UInt8) : fnv (b ++ [x]) = fnvB (fnv b) x := foldl_snoc fnvB _ b x
theorem fnv_lt (b : List UInt8) : fnv b < 4294967296 := by
  rcases List.eq_nil_or_concat b with rfl | ⟨c, x, rfl⟩
  · simp only [fnv, List.foldl_nil]; omega
  · rw [List.concat_eq_append, fnv_snoc]; unfold fnvB; omega
/-- The data of the record that stands at a place. -/
def recAt (row : List UInt8) (p : Nat) : Option (List UInt8) :=
  if row.length ≤ p + 7 ∨ row[p]? ≠ some 1 then none
  else if num ((row.drop (p + 1)).take 2) = 0 ∨ 6000 < num ((row.drop (p + 1)).take 2) ∨ row.length < p + 7 + num ((row.drop (p + 1)).take 2) then none
  else if fnv ((row.drop (p + 7)).take (num ((row.drop (p + 1)).take 2))) ≠ num ((row.drop (p + 3)).take 4) then none
  else some ((row.drop (p + 7)).take (num ((row.drop (p + 1)).take 2)))
theorem recAt_some {row : List UInt8} {p : Nat} {d : List UInt8} (h : recAt row p = some d) : p + 7 + d.length ≤ row.length ∧ 0 < d.length ∧ d.length ≤ 6000 ∧ d = (row.drop (p + 7)).take d.length := by
  unfold recAt at h
  split at h
  · cases h
  split at h
  · cases h
  split at h
  · cases h
  rename_i h1 h2 h3
  simp only [not_or, Nat.not_lt] at h2
  have e := Option.some.inj h
  have hl : d.length = num ((row.drop (p + 1)).take 2) := by rw [← e, List.length_take, List.length_drop]; omega
  refine ⟨by omega, by omega, by omega, by rw [hl]; exact e.symm⟩
/-- The data of the records from a place on, and where they end. -/
def cut (row : List UInt8) (p : Nat) : List (List UInt8) × Nat :=
  match h : recAt row p with
  | none => ([], p)
  | some d => (d :: (cut row (p + 7 + d.length)).1, (cut row (p + 7 + d.length)).2)
termination_by row.length - p
decreasing_by all_goals (have := recAt_some h; omega)
theorem cut_none {row : List UInt8} {p : Nat} (h : recAt row p = none) : cut row p = ([], p) := by rw [cut]; split <;> simp_all
theorem cut_some {row : List UInt8} {p : Nat} {d : List UInt8} (h : recAt row p = some d) : cut row p = (d :: (cut row (p + 7 + d.length)).1, (cut row (p + 7 + d.length)).2) := by
  rw [cut]
  split
  · simp_all
  · rename_i e he
    rw [h] at he
    cases he
    rfl
/-- How many blocks, how many bytes an area has; a place's block. -/
def half (n : Nat) : Nat := (n - 2) / 2
def ablk (n side p : Nat) : Nat := 2 + side * half n + p / 64
def area (v : List UInt8) (n side : Nat) : List UInt8 := (v.drop (64 * (2 + side * half n))).take (64 * half n)
structure Hd where
  side : Nat
  gen : Nat
  size : Nat
  sum : Nat
deriving DecidableEq
def Hd.bytes (h : Hd) : List UInt8 := [116, 111, 99, 115, 105, 110, UInt8.ofNat h.side, 0] ++ le 4 h.gen ++ le 4 h.size ++ le 4 h.sum ++ List.replicate 44 0
def Hd.of (b : List UInt8) : Hd := ⟨(b.getD 6 0).toNat, num ((b.drop 8).take 4), num ((b.drop 12).take 4), num ((b.drop 16).take 4)⟩
/-- A block that looks like a head. -/
def headS (b : List UInt8) (k : Nat) : Option Hd :=
  if 1 < (Hd.of b).side ∨ (Hd.of b).gen < 1 ∨ 999999999 < (Hd.of b).gen ∨ (Hd.of b).gen % 2 ≠ k ∨ (Hd.of b).bytes ≠ b then none else some (Hd.of b)
def headIn (v : List UInt8) (n k : Nat) : Option Hd :=
  match headS (blk v k) k with
  | none => none
  | some h => if 64 * half n < h.size then none else if fnv ((area v n h.side).take h.size) ≠ h.sum then none else some h
def counting (v : List UInt8) (n : Nat) : Option Hd :=
  match headIn v n 0, headIn v n 1 with
  | some a, none => some a
  | some a, some b => if b.gen < a.gen then some a else some b
  | none, o => o
/-- A write or a sync. -/
inductive Op where
  | wr (i : Nat) (b : List UInt8)
  | sy
def DS.blow (s : DS) : Bool := s.fset && decide (s.fl ≤ 0)
def DS.op (s : DS) : Op → DS × Bool
  | .wr i b => if s.blow then ((s.lay i b).fail s.fk s.ft, false) else (s.put i b, true)
  | .sy => if s.blow then (s.fail s.fk s.ft, false) else (s.sync, true)
def andThen (r : DS × Bool) (f : DS → DS × Bool) : DS × Bool := if r.2 then f r.1 else r
def DS.run (s : DS) : List Op → DS × Bool
  | [] => (s, true)
  | o :: r => andThen (s.op o) (·.run r)
theorem run_append (s : DS) : ∀ a b : List Op, s.run (a ++ b) = andThen (s.run a) (·.run b) := by
  intro a
  induction a generalizing s with
  | nil => intro b; rfl
  | cons o r ih =>
    intro b
    simp only [List.cons_append, DS.run, andThen]
    by_cases h : (s.op o).2
    · simp only [h, if_true, ih, andThen]
    · simp [h]
def chunks : Nat → Nat → List UInt8 → List Op
  | 0, _, _ => []
  | c + 1, i, row => .wr i (row.take 64) :: chunks c (i + 1) (row.drop 64)
theorem chunks_succ : ∀ (c i : Nat) (row : List UInt8), chunks (c + 1) i row = chunks c i row ++ [.wr (i + c) ((row.drop (64 * c)).take 64)]
  | 0, i, row => by simp [chunks]
  | c + 1, i, row => by
    rw [chunks, chunks_succ c (i + 1) (row.drop 64), List.drop_drop, chunks, List.cons_append, show i + 1 + c = i + (c + 1) by omega, show 64 + 64 * c = 64 * (c + 1) by omega]
/-- How many blocks are written from the place p up to e. -/
def span (n p e : Nat) : Nat := min e (64 * half n - 1) / 64 - p / 64 + 1
/-- Bytes are written into an area. -/
def DS.into (s : DS) (side p : Nat) (b : List UInt8) : DS × Bool := s.run (chunks (span s.n p (p + b.length)) (ablk s.n side p) ((blk s.view (ablk s.n side p)).take (p % 64) ++ b))
def unflag (d : List UInt8) : List UInt8 := 0 :: (le 2 d.length ++ le 4 (fnv d) ++ d)
def DS.append (s : DS) (side p : Nat) (d : List UInt8) : DS × Bool :=
  andThen (andThen (s.into side p (unflag d)) (·.op .sy)) fun s => andThen (s.op (.wr (ablk s.n side p) ((blk s.view (ablk s.n side p)).set (p % 64) 1))) (·.op .sy)
def DS.layH (s : DS) (h : Hd) : DS × Bool :=
  andThen (s.op (.wr (h.gen % 2) (h.bytes.set 0 0))) fun s => andThen (s.op .sy) fun s => andThen (s.op (.wr (h.gen % 2) h.bytes)) (·.op .sy)
def DS.compact (s : DS) (h : Hd) (b : List UInt8) : DS × Bool := andThen (andThen (s.into h.side 0 b) (·.op .sy)) (·.layH h)
/-- What the contracts ask of a disk: it has power, and m steps more are no great thing. -/
structure DS.Can (s : DS) (m : Nat) : Prop where
  dead : s.dead = false
  W : s.W.length + m ≤ 1000000
  wrote : s.wrote + m ≤ 1000000000
  synced : s.synced + m ≤ 1000000000
  falls : s.falls < 1000000000
  fl0 : 0 ≤ s.fl
  fl : s.fl < 1000000000
theorem DS.Can.mono {s : DS} {m k : Nat} (h : s.Can m) (hk : k ≤ m) : s.Can k :=
  ⟨h.dead, by have := h.W; omega, by have := h.wrote; omega, by have := h.synced; omega, h.falls, h.fl0, h.fl⟩
theorem DS.blow_no {s : DS} (h : s.blow = false) : s.fset = false ∨ 0 < s.fl := by
  unfold DS.blow at h
  cases hf : s.fset
  · exact .inl rfl
  · rw [hf] at h; simp at h; exact .inr h
theorem DS.blow_yes {s : DS} (h : s.blow = true) : s.fset = true ∧ s.fl ≤ 0 := by
  unfold DS.blow at h; simpa using h
theorem DS.Can.op {s : DS} {m : Nat} (h : s.Can (m + 1)) (o : Op) (hb : s.blow = false) : (s.op o).2 = true ∧ (s.op o).1.Can m := by
  have h1 := h.W; have h2 := h.wrote; have h3 := h.synced; have h4 := h.fl0; have h5 := h.fl
  cases o with
  | wr i b =>
    simp only [DS.op, hb, Bool.false_eq_true, if_false]
    refine ⟨trivial, h.dead, ?_, ?_, ?_, h.falls, ?_, ?_⟩
    · simp [DS.put]; omega
    · simp [DS.put]; omega
    · simp [DS.put]; omega
    · simp only [DS.put]; rcases DS.blow_no hb with e | e
      · rw [e]; simpa using h4
      · split <;> omega
    · simp only [DS.put]; split <;> omega
  | sy =>
    simp only [DS.op, hb, Bool.false_eq_true, if_false]
    exact ⟨trivial, h.dead, by simp [DS.sync]; omega, by simp [DS.sync]; omega, by simp [DS.sync]; omega, h.falls, h4, h5⟩
theorem DS.op_ok {s : DS} {o : Op} (h : (s.op o).2 = true) : s.blow = false := by
  cases hb : s.blow
  · rfl
  · cases o <;> simp [DS.op, hb] at h
theorem DS.op_n (s : DS) (o : Op) : (s.op o).1.n = s.n := by
  cases o <;> (simp only [DS.op]; split <;> rfl)
end Go.Dk
