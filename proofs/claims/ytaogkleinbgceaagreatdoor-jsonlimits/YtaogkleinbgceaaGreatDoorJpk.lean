/-
  'pick', and 'Parse' with 'fault' behind it.
-/
import Derived.Test.YtaogkleinbgceaaGreatDoorLawNumbers
import Derived.Test.YtaogkleinbgceaaGreatDoorJlm
import Derived.Deep.OwnRows
import Derived.Deep.DeepCutAuto
namespace Go.Jv
/-- 'pick'. -/
def pk (c : Int) (n : Nat) : Nat := (if c < 0 then -(c + 1) else c).toNat % n
theorem pk_lt (c : Int) (n : Nat) (h : 0 < n) : pk c n < n := Nat.mod_lt _ h
theorem okAt_cases {r : R V} {c : Bool} {p e : Nat} (h : okAt r c p e = true) : (∃ v, r = .ok v ∧ c = true) ∨ (r = .bad p e ∧ c = false) := by
  cases r with
  | ok v => exact .inl ⟨v, rfl, h⟩
  | bad q f =>
    simp [okAt] at h
    exact .inr ⟨by rw [h.1.2, h.2], h.1.1⟩
/-- What 'fault' may say: fine, or this fault at this place. -/
def Okay (c : Bool) (P N : Int) (p e : Nat) : Prop := (c = true ∧ N = 0) ∨ (c = false ∧ P = p ∧ N = e)
theorem openT_size (n : Nat) : (openT n).size = n := by
  induction n with
  | zero => rfl
  | succ n ih => rw [openT, ByteArray.size_append, ih]; rfl
theorem shutT_size (n : Nat) : (shutT n).size = n := by
  induction n with
  | zero => rfl
  | succ n ih => rw [shutT, ByteArray.size_append, ih]; rfl
theorem listT_size (n : Nat) : (listT n).size = 2 + 2 * n := by
  induction n with
  | zero => rfl
  | succ n ih => rw [listT, ByteArray.size_append, ih]; show 2 + 2 * n + 2 = _; omega
theorem membT_size (n : Nat) : (membT n).size = 7 + 7 * n := by
  induction n with
  | zero => rfl
  | succ n ih => rw [membT, ByteArray.size_append, ByteArray.size_append, ByteArray.size_append, ih]; show 7 + 7 * n + 2 + 2 + 3 = _; omega
end Go.Jv
namespace Go.Proofs
open Go.RowKit Go.Jv
set_option maxHeartbeats 1000000 in
theorem Tryz.pick_any (c : Int) (h0 : -9223372036854775808 ≤ c) (h1 : c ≤ 9223372036854775807) (n : Nat) (hn : 0 < n) (hn2 : n ≤ 9223372036854775807) (w : World) :
    Calls Tryz.prog 10 #[.int .i64 c, .int .i64 n] w fun e w' => e = .returned (.int .i64 (pk c n)) ∧ w' = w := by
  have hz : ((n : Int) == 0) = false := by rw [beq_eq_false_iff_ne]; omega
  have hz' : ¬ (n : Int) = 0 := by omega
  have hm : ∀ x : Int, 0 ≤ x → x.tmod n = ((x.toNat % n : Nat) : Int) := fun x hx => by
    rw [Int.tmod_eq_emod_of_nonneg hx, Int.natCast_emod, Int.toNat_of_nonneg hx]
  by_cases hc : c < 0
  · have h2 := hm (-(c + 1)) (by omega)
    have hpk : ((pk c n : Nat) : Int) = (-(c + 1)).tmod n := by rw [h2]; unfold pk; rw [if_pos hc]
    have hb : 0 ≤ (-(c + 1)).tmod n ∧ (-(c + 1)).tmod n < n := by rw [h2]; have := Nat.mod_lt (-(c + 1)).toNat hn; omega
    have HPK : Hid _ := hpk
    rw [Int.neg_tmod] at hb
    clear hpk h2 hm
    go_enter Tryz.func10, Tryz.ntmps10
    go_wp2
    go_ret
    rw [HPK.out, Int.neg_tmod]
    exact ⟨rfl, rfl⟩
  · have h2 := hm c (by omega)
    have hpk : ((pk c n : Nat) : Int) = c % n := by rw [← Int.tmod_eq_emod_of_nonneg (by omega), h2]; unfold pk; rw [if_neg hc]
    have hb : 0 ≤ c % n ∧ c % n < n := ⟨Int.emod_nonneg _ (by omega), Int.emod_lt_of_pos _ (by omega)⟩
    have HPK : Hid _ := hpk
    clear hpk h2 hm
    go_enter Tryz.func10, Tryz.ntmps10
    go_wp2
    go_ret
    rw [HPK.out]
    exact ⟨rfl, rfl⟩
/-- 'Parse', and then 'fault' of what it said. -/
theorem Tryz.pf_of {t : ByteArray} {W w' : World} {en : Ending} {c : Bool} {p e : Nat} (he : e ≠ 0) (h : okAt (parse t) c p e = true) (hp : Tryz.ParseOk t W en w') :
    ∃ pv ev, en = .returned (.tuple #[pv, ev]) ∧ Below W.heap.size W w' ∧
      Calls Tryz.prog 12 #[ev] w' fun en2 w2 => en2 = .returned (.tuple #[.int .i64 (if c = true then 0 else (p : Int)), .int .i64 (if c = true then 0 else (e : Int)), .bool true]) ∧ Below w'.heap.size w' w2 := by
  rcases okAt_cases h with ⟨v, hv, rfl⟩ | ⟨hv, rfl⟩
  · obtain ⟨x, h1, -, h3⟩ := Tryz.ParseOk.ok hv hp
    exact ⟨_, _, h1, h3, (Tryz.lawFault_nil w').mono fun e2 w2 ⟨a, b⟩ => ⟨a, by rw [b]; exact Below.refl _ _⟩⟩
  · obtain ⟨y, h1, h2, h3, h4⟩ := Tryz.ParseOk.bad hv hp
    exact ⟨_, _, h1, h4, (Tryz.lawFault_some w' y p e h2 h3 he).mono fun e2 w2 ⟨a, nn, b⟩ => ⟨a, by rw [b]; exact Jv.belowN (Below.refl _ _) _⟩⟩
theorem Tryz.parse_pf (t : ByteArray) (c : Bool) (p e : Nat) (he : e ≠ 0) (h : okAt (parse t) c p e = true) (k : Nat) (w : World) (hs : t.size ≤ 140737488355328) (hT : Tryz.Tb w) :
    Calls Tryz.prog 11 #[.slice (some ⟨w.heap.size, 0, none⟩) t.size k] (Lib.bytesWorld w 5 t) fun en w' =>
      ∃ pv ev, en = .returned (.tuple #[pv, ev]) ∧ Below w.heap.size w w' ∧
      Calls Tryz.prog 12 #[ev] w' fun en2 w2 => en2 = .returned (.tuple #[.int .i64 (if c = true then 0 else (p : Int)), .int .i64 (if c = true then 0 else (e : Int)), .bool true]) ∧ Below w'.heap.size w' w2 := by
  refine (Tryz.parse_bytes t k w hs hT).mono fun en w' hp => ?_
  obtain ⟨pv, ev, h1, h2, h3⟩ := Tryz.pf_of he h hp
  have hb := Jv.bytesW_below w 5 t
  exact ⟨pv, ev, h1, hb.trans (h2.mono hb.size), h3⟩
theorem Jv.bthen {B : Nat} {w w1 w2 : World} (h1 : Below B w w1) (h2 : Below w1.heap.size w1 w2) (hB : B ≤ w.heap.size) : Below B w w2 := h1.trans (h2.mono (Nat.le_trans hB h1.size))
theorem Jv.okay_of (c : Bool) (p e : Nat) : Okay c (if c = true then 0 else (p : Int)) (if c = true then 0 else (e : Int)) p e := by
  cases c with
  | true => exact .inl ⟨rfl, rfl⟩
  | false => exact .inr ⟨rfl, rfl, rfl⟩
theorem Tryz.parse_pk (t : ByteArray) (c : Bool) (p e : Nat) (he : e ≠ 0) (h : okAt (parse t) c p e = true) (k : Nat) (w : World) (hs : t.size ≤ 140737488355328) (hT : Tryz.Tb w) :
    Calls Tryz.prog 11 #[.slice (some ⟨w.heap.size, 0, none⟩) t.size k] (Lib.bytesWorld w 5 t) fun en w' =>
      ∃ pv ev, en = .returned (.tuple #[pv, ev]) ∧ Below w.heap.size w w' ∧ ∃ P N : Int, Okay c P N p e ∧
      Calls Tryz.prog 12 #[ev] w' fun en2 w2 => en2 = .returned (.tuple #[.int .i64 P, .int .i64 N, .bool true]) ∧ Below w'.heap.size w' w2 :=
  (Tryz.parse_pf t c p e he h k w hs hT).mono fun _ _ ⟨pv, ev, h1, h2, h3⟩ => ⟨pv, ev, h1, h2, _, _, Jv.okay_of c p e, h3⟩
theorem Tryz.conv2 (k : Nat) (hk : k < 99) (w : World) :
    (convert 29 9 (.slice (some ⟨w.heap.size, 0, none⟩) 2 2)).run Tryz.prog (w.alloc (.cells #[.int .u8 (48 + ((k : Int) + 1) / 10), .int .u8 (48 + ((k : Int) + 1) % 10)] 5)) = .ok (.string (two (k + 1))) (w.alloc (.cells #[.int .u8 (48 + ((k : Int) + 1) / 10), .int .u8 (48 + ((k : Int) + 1) % 10)] 5)) := by
  refine Tryz.conv_at (two (k + 1)) w.heap.size 2 _ (fun j hj => ?_)
  have e1 : (k + 1) / 10 ≤ 9 := by omega
  have e2 : (k + 1) % 10 ≤ 9 := by omega
  have c0 := cell_of_row (w.alloc (.cells #[.int .u8 (48 + ((k : Int) + 1) / 10), .int .u8 (48 + ((k : Int) + 1) % 10)] 5)) w.heap.size 0 _ _ _ (heap_alloc_new w _)
  have c1 := cell_of_row (w.alloc (.cells #[.int .u8 (48 + ((k : Int) + 1) / 10), .int .u8 (48 + ((k : Int) + 1) % 10)] 5)) w.heap.size 1 _ _ _ (heap_alloc_new w _)
  have hj2 : j < 2 := hj
  match j, hj2 with
  | 0, _ => rw [c0]; simp [two]; omega
  | 1, _ => rw [c1]; simp [two]; omega
theorem Tryz.makeU (n : Nat) (hn : n ≤ 5000) (w : World) : ∃ w1, (Instr.makeSlice 29 (.int .i64 (n : Int)) (.int .i64 (n : Int))).run Tryz.prog w = .ok (.slice (some ⟨w.heap.size, 0, none⟩) n n) w1 ∧ Below w.heap.size w w1 ∧ w1.heap.size = w.heap.size + 1 ∧ w1.rowIs w.heap.size 5 n (fun _ => .int .u8 0) := by
  have hmk := run_make_row' (P := Tryz.prog) 29 5 (.int .u8 0) 1 Tryz.underlying29 Tryz.info_u8 rfl .i64 .i64 n (by omega) (by omega)
  exact ⟨_, hmk w, (Below.refl w.heap.size w).alloc (Nat.le_refl _) _, by simp, World.rowIs_made w (.int .u8 0) n 5⟩
theorem Jv.long_at (n p : Nat) (hp : p < n) (hn : n ≤ 5000) : okAt (parse (longT n p)) (decide (n ≤ 4096)) 4096 eSize = true := by
  by_cases h : n ≤ 4096
  · obtain ⟨v, hv⟩ := long_all n p hp h
    rw [hv]; simp [okAt, h]
  · have : parse (longT n p) = .bad 4096 eSize := by unfold parse; rw [longT_size, if_pos (by omega)]
    rw [this]; simp [okAt, h]
/-- 'Parse' of a row of bytes that lies there. -/
theorem Tryz.parse_row (n p g : Nat) (hp : p < n) (hn : n ≤ 5000) (w : World) (hT : Tryz.Tb w) (hr : w.rowIs g 5 n (fun j => .int .u8 (if j = p then 49 else 32))) :
    Calls Tryz.prog 11 #[.slice (some ⟨g, 0, none⟩) n n] w fun en w' =>
      ∃ pv ev, en = .returned (.tuple #[pv, ev]) ∧ Below w.heap.size w w' ∧ ∃ P N : Int, Okay (decide (n ≤ 4096)) P N 4096 eSize ∧
      Calls Tryz.prog 12 #[ev] w' fun en2 w2 => en2 = .returned (.tuple #[.int .i64 P, .int .i64 N, .bool true]) ∧ Below w'.heap.size w' w2 := by
  have hz := longT_size n p
  have hg := longT_get n p
  have hgl : g < w.heap.size := World.block_lt_of_cell? _ _ (hr.cell (i := 0) (by omega))
  have h := Tryz.parse_any (longT n p) (some ⟨g, 0, none⟩) n w (by omega) hT (fun W hW => Tryz.conv_at (longT n p) g n W (fun j hj => by
    rw [hW.cell (p := ⟨g, j, none⟩) hgl, hr.cell (i := j) (by omega)]
    have e := hg j (by omega)
    rw [Lib.getD_get!, e]
    by_cases hj : j = p
    · rw [if_pos hj, if_pos hj.symm]; rfl
    · rw [if_neg hj, if_neg (Ne.symm hj)]; rfl))
  rw [hz] at h
  refine h.mono fun en w' hpk => ?_
  obtain ⟨pv, ev, h1, h2, h3⟩ := Tryz.pf_of (by decide) (Jv.long_at n p hp hn) hpk
  exact ⟨pv, ev, h1, h2, _, _, Jv.okay_of _ _ _, h3⟩
end Go.Proofs
