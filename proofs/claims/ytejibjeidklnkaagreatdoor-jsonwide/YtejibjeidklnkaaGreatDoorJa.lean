/-
  VALUES in memory; 'OfBool', 'OfInt', 'word'.
-/
import Derived.Test.YtejibjeidklnkaaGreatDoorJr8
namespace Go.Proofs
open Go.RowKit Go.Jv
/-- The block of a value: what its six fields hold. -/
structure Jv.Vb (w : World) (x : Nat) (k : Int) (tr : Bool) (n : Int) (s : ByteArray) (ks is : Value) : Prop where
  c0 : w.cell? ⟨x, 0, none⟩ = some (.int .i64 k)
  c1 : w.cell? ⟨x, 1, none⟩ = some (.bool tr)
  c2 : w.cell? ⟨x, 2, none⟩ = some (.int .i64 n)
  c3 : w.cell? ⟨x, 3, none⟩ = some (.string s)
  c4 : w.cell? ⟨x, 4, none⟩ = some ks
  c5 : w.cell? ⟨x, 5, none⟩ = some is
  f4 : w.frozen? ⟨x, 4, none⟩ = false
  f5 : w.frozen? ⟨x, 5, none⟩ = false
  lt : x < w.heap.size
  un : ∃ cs T, w.heap[x]? = some (.cells cs T (0, 0))
theorem Jv.Vb.keep {w w' : World} {x : Nat} {k : Int} {tr : Bool} {n : Int} {s : ByteArray} {ks is : Value} (h : Jv.Vb w x k tr n s ks is) (hk : w'.heap[x]? = w.heap[x]?) (hs : w.heap.size ≤ w'.heap.size) : Jv.Vb w' x k tr n s ks is :=
  ⟨(World.cell?_of_block hk).trans h.c0, (World.cell?_of_block hk).trans h.c1, (World.cell?_of_block hk).trans h.c2, (World.cell?_of_block hk).trans h.c3, (World.cell?_of_block hk).trans h.c4, (World.cell?_of_block hk).trans h.c5, (World.frozen?_of_block hk).trans h.f4, (World.frozen?_of_block hk).trans h.f5, Nat.lt_of_lt_of_le h.lt hs, by obtain ⟨cs, T, h1⟩ := h.un; exact ⟨cs, T, hk.trans h1⟩⟩
theorem Jv.Vb.new (w : World) (k : Int) (tr : Bool) (n : Int) (s : ByteArray) (ks is : Value) (U : TypeId) : Jv.Vb (w.alloc (.cells #[.int .i64 k, .bool tr, .int .i64 n, .string s, ks, is] U)) w.heap.size k tr n s ks is := by
  refine ⟨?_, ?_, ?_, ?_, ?_, ?_, ?_, ?_, by simp, ⟨_, U, heap_alloc_new w _⟩⟩ <;> simp [go_sem]
def Jv.nilS : Value := .slice none 0 0
def Jv.ptrs (xs : List Nat) : List Value := xs.map fun x => .pointer (some ⟨x, 0, none⟩)
/-- A row of one's own, in a block that may be. -/
structure Jv.Rw (w : World) (ok : Nat → Prop) (e : TypeId) (sv : Value) (vals : List Value) : Prop where
  row : w.ownsRow 0 e 1 sv vals.length vals
  ok : ∀ k, sv.ownBlock = some k → ok k
mutual
/-- The block x holds the value v, all of it in blocks that may be. -/
def Tryz.Tr (w : World) (ok : Nat → Prop) : V → Nat → Prop
  | .null, x => ok x ∧ Jv.Vb w x 0 false 0 emp Jv.nilS Jv.nilS
  | .bool b, x => ok x ∧ Jv.Vb w x 1 b 0 emp Jv.nilS Jv.nilS
  | .int n, x => (ok x ∧ -maxInt ≤ n ∧ n ≤ maxInt) ∧ Jv.Vb w x 2 false n emp Jv.nilS Jv.nilS
  | .text s, x => ok x ∧ Jv.Vb w x 3 false 0 s Jv.nilS Jv.nilS
  | .list l, x => ok x ∧ ∃ (sv : Value) (xs : List Nat), Jv.Vb w x 4 false 0 emp Jv.nilS sv ∧ Jv.Rw w ok 27 sv (Jv.ptrs xs) ∧ Tryz.Trs w ok l xs
  | .obj ks l, x => ok x ∧ ∃ (kv sv : Value) (xs : List Nat), Jv.Vb w x 5 false 0 emp kv sv ∧ Jv.Rw w ok 9 kv (ks.map Value.string) ∧ Jv.Rw w ok 27 sv (Jv.ptrs xs) ∧ Tryz.Trs w ok l xs ∧ ks.length = xs.length
def Tryz.Trs (w : World) (ok : Nat → Prop) : List V → List Nat → Prop
  | [], xs => xs = []
  | v :: l, xs => ∃ x r, xs = x :: r ∧ Tryz.Tr w ok v x ∧ Tryz.Trs w ok l r
end
theorem Jv.row_lt {w : World} {B : Nat} {e : TypeId} {size : Nat} {v : Value} {n : Nat} {xs : List Value} (h : w.ownsRow B e size v n xs) : ∀ k, v.ownBlock = some k → B ≤ k ∧ k < w.heap.size := by
  intro k hk
  rcases h.2 with ⟨rfl, _⟩ | ⟨g, cap, cur, rfl, h2, h3, _⟩
  · cases hk
  · simp [Value.ownBlock] at hk; subst hk; exact ⟨h2, (Array.getElem?_eq_some_iff.1 h3).1⟩
theorem Jv.row_move {w w' : World} {B B' : Nat} {e : TypeId} {size : Nat} {v : Value} {n : Nat} {xs : List Value} (h : w.ownsRow B e size v n xs) (hk : ∀ g, v.ownBlock = some g → B' ≤ g ∧ w'.heap[g]? = w.heap[g]?) : w'.ownsRow B' e size v n xs := by
  refine ⟨h.1, ?_⟩
  rcases h.2 with h1 | ⟨g, cap, cur, h1, h2, h3, h4⟩
  · exact .inl h1
  · have := hk g (by rw [h1]; rfl)
    exact .inr ⟨g, cap, cur, h1, this.1, this.2.trans h3, h4⟩
theorem Jv.Rw.keep {w w' : World} {ok : Nat → Prop} {e : TypeId} {sv : Value} {vals : List Value} (h : Jv.Rw w ok e sv vals) (hk : ∀ g, ok g → g < w.heap.size → w'.heap[g]? = w.heap[g]?) : Jv.Rw w' ok e sv vals :=
  ⟨Jv.row_move h.row fun g hg => ⟨Nat.zero_le _, hk g (h.ok g hg) (Jv.row_lt h.row g hg).2⟩, h.ok⟩
theorem Jv.Rw.mono {w : World} {ok ok' : Nat → Prop} {e : TypeId} {sv : Value} {vals : List Value} (h : Jv.Rw w ok e sv vals) (hm : ∀ g, ok g → g < w.heap.size → ok' g) : Jv.Rw w ok' e sv vals :=
  ⟨h.row, fun k hk => hm k (h.ok k hk) (Jv.row_lt h.row k hk).2⟩
theorem Tryz.ofBool_any (t : Bool) (w : World) :
    Calls Tryz.prog 36 #[.bool t] w fun e w' => e = .returned (.pointer (some ⟨w.heap.size, 0, none⟩)) ∧ w' = w.alloc (.cells #[.int .i64 1, .bool t, .int .i64 0, .string emp, Jv.nilS, Jv.nilS] 55) := by
  go_enter Tryz.func36, Tryz.ntmps36
  go_wp2
  go_ret
  exact ⟨rfl, rfl⟩
theorem Tryz.ofInt_any (n : Int) (w : World) :
    Calls Tryz.prog 40 #[.int .i64 n] w fun e w' => e = .returned (.pointer (some ⟨w.heap.size, 0, none⟩)) ∧ w' = w.alloc (.cells #[.int .i64 2, .bool false, .int .i64 (max (-9007199254740991) (min n 9007199254740991)), .string emp, Jv.nilS, Jv.nilS] 55) := by
  go_enter Tryz.func40, Tryz.ntmps40
  go_wp2
  go_ret
  exact ⟨rfl, rfl⟩
mutual
theorem Tryz.Tr_keep {w w' : World} {ok : Nat → Prop} (hk : ∀ g, ok g → g < w.heap.size → w'.heap[g]? = w.heap[g]?) (hs : w.heap.size ≤ w'.heap.size) : ∀ (v : V) (x : Nat), Tryz.Tr w ok v x → Tryz.Tr w' ok v x
  | .null, x, h => by unfold Tryz.Tr at h ⊢; exact ⟨h.1, h.2.keep (hk x h.1 h.2.lt) hs⟩
  | .bool b, x, h => by unfold Tryz.Tr at h ⊢; exact ⟨h.1, h.2.keep (hk x h.1 h.2.lt) hs⟩
  | .int n, x, h => by unfold Tryz.Tr at h ⊢; exact ⟨h.1, h.2.keep (hk x h.1.1 h.2.lt) hs⟩
  | .text s, x, h => by unfold Tryz.Tr at h ⊢; exact ⟨h.1, h.2.keep (hk x h.1 h.2.lt) hs⟩
  | .list l, x, h => by
    unfold Tryz.Tr at h ⊢
    obtain ⟨h1, sv, xs, h2, h3, h4⟩ := h
    exact ⟨h1, sv, xs, h2.keep (hk x h1 h2.lt) hs, h3.keep hk, Tryz.Trs_keep hk hs l xs h4⟩
  | .obj ks l, x, h => by
    unfold Tryz.Tr at h ⊢
    obtain ⟨h1, kv, sv, xs, h2, h3, h4, h5, h6⟩ := h
    exact ⟨h1, kv, sv, xs, h2.keep (hk x h1 h2.lt) hs, h3.keep hk, h4.keep hk, Tryz.Trs_keep hk hs l xs h5, h6⟩
theorem Tryz.Trs_keep {w w' : World} {ok : Nat → Prop} (hk : ∀ g, ok g → g < w.heap.size → w'.heap[g]? = w.heap[g]?) (hs : w.heap.size ≤ w'.heap.size) : ∀ (l : List V) (xs : List Nat), Tryz.Trs w ok l xs → Tryz.Trs w' ok l xs
  | [], xs, h => by unfold Tryz.Trs at h ⊢; exact h
  | v :: l, xs, h => by
    unfold Tryz.Trs at h ⊢
    obtain ⟨x, r, h1, h2, h3⟩ := h
    exact ⟨x, r, h1, Tryz.Tr_keep hk hs v x h2, Tryz.Trs_keep hk hs l r h3⟩
end
mutual
theorem Tryz.Tr_mono {w : World} {ok ok' : Nat → Prop} (hm : ∀ g, ok g → g < w.heap.size → ok' g) : ∀ (v : V) (x : Nat), Tryz.Tr w ok v x → Tryz.Tr w ok' v x
  | .null, x, h => by unfold Tryz.Tr at h ⊢; exact ⟨hm x h.1 h.2.lt, h.2⟩
  | .bool b, x, h => by unfold Tryz.Tr at h ⊢; exact ⟨hm x h.1 h.2.lt, h.2⟩
  | .int n, x, h => by unfold Tryz.Tr at h ⊢; exact ⟨⟨hm x h.1.1 h.2.lt, h.1.2⟩, h.2⟩
  | .text s, x, h => by unfold Tryz.Tr at h ⊢; exact ⟨hm x h.1 h.2.lt, h.2⟩
  | .list l, x, h => by
    unfold Tryz.Tr at h ⊢
    obtain ⟨h1, sv, xs, h2, h3, h4⟩ := h
    exact ⟨hm x h1 h2.lt, sv, xs, h2, h3.mono hm, Tryz.Trs_mono hm l xs h4⟩
  | .obj ks l, x, h => by
    unfold Tryz.Tr at h ⊢
    obtain ⟨h1, kv, sv, xs, h2, h3, h4, h5, h6⟩ := h
    exact ⟨hm x h1 h2.lt, kv, sv, xs, h2, h3.mono hm, h4.mono hm, Tryz.Trs_mono hm l xs h5, h6⟩
theorem Tryz.Trs_mono {w : World} {ok ok' : Nat → Prop} (hm : ∀ g, ok g → g < w.heap.size → ok' g) : ∀ (l : List V) (xs : List Nat), Tryz.Trs w ok l xs → Tryz.Trs w ok' l xs
  | [], xs, h => by unfold Tryz.Trs at h ⊢; exact h
  | v :: l, xs, h => by
    unfold Tryz.Trs at h ⊢
    obtain ⟨x, r, h1, h2, h3⟩ := h
    exact ⟨x, r, h1, Tryz.Tr_mono hm v x h2, Tryz.Trs_mono hm l r h3⟩
end
theorem Tryz.Trs_len {w : World} {ok : Nat → Prop} : ∀ (l : List V) (xs : List Nat), Tryz.Trs w ok l xs → xs.length = l.length
  | [], xs, h => by unfold Tryz.Trs at h; subst h; rfl
  | v :: l, xs, h => by
    unfold Tryz.Trs at h
    obtain ⟨x, r, rfl, h2, h3⟩ := h
    simp [Tryz.Trs_len l r h3]
theorem Tryz.Trs_snoc {w : World} {ok : Nat → Prop} {v : V} {x : Nat} (hv : Tryz.Tr w ok v x) : ∀ (l : List V) (xs : List Nat), Tryz.Trs w ok l xs → Tryz.Trs w ok (l ++ [v]) (xs ++ [x])
  | [], xs, h => by
    unfold Tryz.Trs at h; subst h
    exact ⟨x, [], rfl, hv, rfl⟩
  | u :: l, xs, h => by
    unfold Tryz.Trs at h
    obtain ⟨y, r, rfl, h2, h3⟩ := h
    exact ⟨y, r ++ [x], rfl, h2, Tryz.Trs_snoc hv l r h3⟩
/-- A value's pointer as an answer. -/
def Tryz.Vok (b : Nat) (t : ByteArray) (o : Nat) (w : World) (v : V) (q : Nat) (en : Ending) (w' : World) : Prop :=
  ∃ x, en = .returned (.pointer (some ⟨x, 0, none⟩)) ∧ Tryz.Tr w' (fun g => w.heap.size ≤ g) v x ∧ Rd w' b t q o ∧ Wk b w w'
theorem Tryz.vok_new {b : Nat} {t : ByteArray} {o q : Nat} {w w1 : World} {ob : Obj} {v : V} (hR : Rd w1 b t q o) (hW : Wk b w w1) (hv : w.heap.size ≤ w1.heap.size → Tryz.Tr (w1.alloc ob) (fun g => w.heap.size ≤ g) v w1.heap.size) :
    Tryz.Vok b t o w v q (.returned (.pointer (some ⟨w1.heap.size, 0, none⟩))) (w1.alloc ob) :=
  ⟨w1.heap.size, rfl, hv hW.size, hR.below ((Below.refl _ _).alloc (Nat.le_refl _) _), hW.below ((Below.refl w1.heap.size _).alloc (Nat.le_refl _) _) hW.size⟩
theorem Jv.bytes_ne {a : ByteArray} {l : List UInt8} (h : ¬ a = ⟨l.toArray⟩) : (a.toList == l) = false := by
  rw [ByteArray.toList_eq]
  simp only [beq_eq_false_iff_ne, ne_eq]
  intro e
  exact h (by obtain ⟨⟨x⟩⟩ := a; simp at e; subst e; rfl)
theorem Jv.bytes_eq (a : ByteArray) (l : List UInt8) : a = ⟨l.toArray⟩ ↔ a.data.toList = l := by
  constructor
  · rintro rfl; simp
  · intro h; obtain ⟨⟨x⟩⟩ := a; simp at h; subst h; rfl
set_option maxHeartbeats 1000000 in
theorem Tryz.word_any {w : World} {b : Nat} {t : ByteArray} {p o : Nat} (h : Rd w b t p o) :
    Calls Tryz.prog 27 #[.pointer (some ⟨b, 0, none⟩)] w fun en w' =>
      (∃ v q, word t p = .ok (v, q) ∧ Tryz.Vok b t o w v q en w') ∨ (∃ p' e, word t p = .bad p' e ∧ Bad 40 p' e en w' ∧ Wk b w w') := by
  have hrun := Tryz.run_isLetter h
  obtain ⟨c0, c1, c2, f0, f1, f2, hb, hp, ht, ho⟩ := h
  have hw : word t p = (if (sub t p (run isLetter t p)).data.toList = [110, 117, 108, 108] then .ok (.null, run isLetter t p) else if (sub t p (run isLetter t p)).data.toList = [116, 114, 117, 101] then .ok (.bool true, run isLetter t p) else if (sub t p (run isLetter t p)).data.toList = [102, 97, 108, 115, 101] then .ok (.bool false, run isLetter t p) else .bad p eSyntax) := rfl
  have HW : Hid (word t p = _) := hw
  clear hw
  generalize run isLetter t p = q at *
  generalize sub t p q = s at *
  by_cases h1 : s = ⟨#[110, 117, 108, 108]⟩
  · subst h1
    go_enter Tryz.func27, Tryz.ntmps27
    go_wp2_with (first | (go_at_call 23; refine hrun.mono ?_; rintro e1 w1 ⟨rfl, hR1, hW1⟩) | fail)
    go_ret
    exact Or.inl ⟨.null, q, HW.out.trans (by simp), Tryz.vok_new hR1 hW1 (v := .null) (fun h => ⟨h, Jv.Vb.new w1 0 false 0 emp Jv.nilS Jv.nilS _⟩)⟩
  · have n1 : (s.toList == [110, 117, 108, 108]) = false := Jv.bytes_ne h1
    have m1 : ¬ s.data.toList = [110, 117, 108, 108] := fun h => h1 ((Jv.bytes_eq s _).2 h)
    clear h1
    by_cases h2 : s = ⟨#[116, 114, 117, 101]⟩
    · subst h2
      go_enter Tryz.func27, Tryz.ntmps27
      go_wp2_with (first | (go_at_call 23; refine hrun.mono ?_; rintro e1 w1 ⟨rfl, hR1, hW1⟩) | (go_at_call 36; refine (Tryz.ofBool_any _ _).mono ?_; rintro e2 w2 ⟨rfl, rfl⟩) | fail)
      go_ret
      exact Or.inl ⟨.bool true, q, HW.out.trans (by simp), Tryz.vok_new hR1 hW1 (v := .bool true) (fun h => ⟨h, Jv.Vb.new w1 1 true 0 emp Jv.nilS Jv.nilS _⟩)⟩
    · have n2 : (s.toList == [116, 114, 117, 101]) = false := Jv.bytes_ne h2
      have m2 : ¬ s.data.toList = [116, 114, 117, 101] := fun h => h2 ((Jv.bytes_eq s _).2 h)
      clear h2
      by_cases h3 : s = ⟨#[102, 97, 108, 115, 101]⟩
      · subst h3
        go_enter Tryz.func27, Tryz.ntmps27
        go_wp2_with (first | (go_at_call 23; refine hrun.mono ?_; rintro e1 w1 ⟨rfl, hR1, hW1⟩) | (go_at_call 36; refine (Tryz.ofBool_any _ _).mono ?_; rintro e2 w2 ⟨rfl, rfl⟩) | fail)
        go_ret
        exact Or.inl ⟨.bool false, q, HW.out.trans (by simp), Tryz.vok_new hR1 hW1 (v := .bool false) (fun h => ⟨h, Jv.Vb.new w1 1 false 0 emp Jv.nilS Jv.nilS _⟩)⟩
      · have n3 : (s.toList == [102, 97, 108, 115, 101]) = false := Jv.bytes_ne h3
        have m3 : ¬ s.data.toList = [102, 97, 108, 115, 101] := fun h => h3 ((Jv.bytes_eq s _).2 h)
        clear h3
        go_enter Tryz.func27, Tryz.ntmps27
        go_wp2_with (first | (go_at_call 23; refine hrun.mono ?_; rintro e1 w1 ⟨rfl, hR1, hW1⟩) | (go_at_call 12; refine (Tryz.fault_any _ _ _).mono ?_; rintro e9 w9 ⟨rfl, rfl⟩) | fail)
        have hq := Jv.bad_new (T := 40) (U := 48) (n := 0) (p := p) (e := 20) hR1.hb
        exact ⟨rfl, Or.inr ⟨_, _, HW.out.trans ((if_neg m1).trans ((if_neg m2).trans (if_neg m3))), hq.1, hW1.trans hq.2⟩⟩
end Go.Proofs
