/-
  One disk, two disks; pick, bytes.
-/
import Derived.Test.YtjidghhgoofhlaaDi
import Derived.Laws.IdiomStrings
namespace Go.Proofs
open Go.RowKit Go.Dk
/-- A disk, all of it in blocks of its own. -/
structure Try.Dsk (w : World) (own : Nat → Prop) (x : Nat) (s : DS) : Prop where
  ex : ∃ l t V, Try.Mem w x l t V s (Dk.lats s.n s.W) ∧ ∀ k, Dk.foot x l t V k → own k
  lt : ∀ k, own k → k < w.heap.size
/-- One disk; below B nothing has turned since w0. -/
structure Try.One (B : Nat) (w0 w : World) (a : Nat) (sa : DS) : Prop where
  ex : ∃ oa : Nat → Prop, Try.Dsk w oa a sa ∧ ∀ k, oa k → B ≤ k
  bel : Below B w0 w
  le : B ≤ w.heap.size
/-- Two disks that have nothing to do with one another. -/
structure Try.Two (B : Nat) (w0 w : World) (a b : Nat) (sa sb : DS) : Prop where
  ex : ∃ oa ob : Nat → Prop, Try.Dsk w oa a sa ∧ Try.Dsk w ob b sb ∧ (∀ k, oa k → ob k → False) ∧ (∀ k, oa k → B ≤ k) ∧ ∀ k, ob k → B ≤ k
  bel : Below B w0 w
  le : B ≤ w.heap.size
theorem Try.Dsk.keep {w w' : World} {own : Nat → Prop} {x : Nat} {s : DS} (h : Try.Dsk w own x s) (hk : ∀ k, own k → w'.heap[k]? = w.heap[k]?) (hs : w.heap.size ≤ w'.heap.size) : Try.Dsk w' own x s := by
  obtain ⟨l, t, V, hm, hf⟩ := h.ex
  exact ⟨⟨l, t, V, hm.keep fun k e => hk k (hf k e), hf⟩, fun k e => Nat.lt_of_lt_of_le (h.lt k e) hs⟩
theorem Try.Two.symm {B : Nat} {w0 w : World} {a b : Nat} {sa sb : DS} (h : Try.Two B w0 w a b sa sb) : Try.Two B w0 w b a sb sa := by
  obtain ⟨oa, ob, h1, h2, h3, h4, h5⟩ := h.ex
  exact ⟨⟨ob, oa, h2, h1, fun k e f => h3 k f e, h5, h4⟩, h.bel, h.le⟩
theorem Try.One.below {B : Nat} {w0 w w' : World} {a : Nat} {sa : DS} (h : Try.One B w0 w a sa) (g : Below w.heap.size w w') : Try.One B w0 w' a sa := by
  obtain ⟨oa, h1, h2⟩ := h.ex
  exact ⟨⟨oa, h1.keep (fun k e => g.block k (h1.lt k e)) g.size, h2⟩, h.bel.trans (g.mono h.le), Nat.le_trans h.le g.size⟩
theorem Try.Two.below {B : Nat} {w0 w w' : World} {a b : Nat} {sa sb : DS} (h : Try.Two B w0 w a b sa sb) (g : Below w.heap.size w w') : Try.Two B w0 w' a b sa sb := by
  obtain ⟨oa, ob, h1, h2, h3, h4, h5⟩ := h.ex
  exact ⟨⟨oa, ob, h1.keep (fun k e => g.block k (h1.lt k e)) g.size, h2.keep (fun k e => g.block k (h2.lt k e)) g.size, h3, h4, h5⟩, h.bel.trans (g.mono h.le), Nat.le_trans h.le g.size⟩
/-- What a call on a disk leaves. -/
def Try.Left (w w' : World) (x l t : Nat) (V : Value) (s' : DS) : Prop :=
  ∃ V', Try.Mem w' x l t V' s' (Dk.lats s'.n s'.W) ∧ Dk.Wo (Dk.foot x l t V) w w' ∧ ∀ k, V'.ownBlock = some k → V.ownBlock = some k ∨ w.heap.size ≤ k
theorem Try.Dsk.step {w w' : World} {own : Nat → Prop} {x l t : Nat} {V : Value} {s' : DS} (hlt : ∀ k, own k → k < w.heap.size) (hf : ∀ k, Dk.foot x l t V k → own k) (h : Try.Left w w' x l t V s') :
    Try.Dsk w' (fun k => own k ∨ (w.heap.size ≤ k ∧ k < w'.heap.size)) x s' ∧ Dk.Wo own w w' := by
  obtain ⟨V', hm, hw, hv⟩ := h
  refine ⟨⟨⟨l, t, V', hm, ?_⟩, ?_⟩, hw.mono hf⟩
  · rintro k (e | e | e | e)
    · exact .inl (hf k (.inl e))
    · exact .inl (hf k (.inr (.inl e)))
    · exact .inl (hf k (.inr (.inr (.inl e))))
    · rcases hv k e with e' | e'
      · exact .inl (hf k (.inr (.inr (.inr e'))))
      · exact .inr ⟨e', (hm.hv.lt k e).2⟩
  · rintro k (e | e)
    · exact Nat.lt_of_lt_of_le (hlt k e) hw.size
    · exact e.2
theorem Try.One.step {B : Nat} {w0 w : World} {a : Nat} {sa sa' : DS} (h : Try.One B w0 w a sa) {f : FuncId} {args : Array Value} {R : Ending → Prop}
    (hc : ∀ l t V, Try.Mem w a l t V sa (Dk.lats sa.n sa.W) → Calls Try.prog f args w fun e w' => R e ∧ Try.Left w w' a l t V sa') : Calls Try.prog f args w fun e w' => R e ∧ Try.One B w0 w' a sa' := by
  obtain ⟨oa, h1, h2⟩ := h.ex
  obtain ⟨l, t, V, hm, hf⟩ := h1.ex
  refine (hc l t V hm).mono fun e w' ⟨r1, r2⟩ => ⟨r1, ?_⟩
  obtain ⟨hd, hw⟩ := Try.Dsk.step h1.lt hf r2
  have hle := h.le
  refine ⟨⟨_, hd, fun k e => ?_⟩, h.bel.trans ⟨hw.os, hw.tape, hw.output, hw.size, fun k hk => hw.block k (by omega) (fun e => by have := h2 k e; omega)⟩, Nat.le_trans h.le hw.size⟩
  rcases e with e | e
  · exact h2 k e
  · omega
theorem Try.Two.step {B : Nat} {w0 w : World} {a b : Nat} {sa sa' sb : DS} (h : Try.Two B w0 w a b sa sb) {f : FuncId} {args : Array Value} {R : Ending → Prop}
    (hc : ∀ l t V, Try.Mem w a l t V sa (Dk.lats sa.n sa.W) → Calls Try.prog f args w fun e w' => R e ∧ Try.Left w w' a l t V sa') : Calls Try.prog f args w fun e w' => R e ∧ Try.Two B w0 w' a b sa' sb := by
  obtain ⟨oa, ob, h1, h2, h3, h4, h5⟩ := h.ex
  obtain ⟨l, t, V, hm, hf⟩ := h1.ex
  refine (hc l t V hm).mono fun e w' ⟨r1, r2⟩ => ⟨r1, ?_⟩
  obtain ⟨hd, hw⟩ := Try.Dsk.step h1.lt hf r2
  have hle := h.le
  refine ⟨⟨_, ob, hd, h2.keep (fun k e => hw.block k (h2.lt k e) (fun e' => h3 k e' e)) hw.size, fun k e f => ?_, fun k e => ?_, h5⟩, h.bel.trans ⟨hw.os, hw.tape, hw.output, hw.size, fun k hk => hw.block k (by omega) (fun e => by have := h4 k e; omega)⟩, Nat.le_trans h.le hw.size⟩
  · rcases e with e | e
    · exact h3 k e f
    · have := h2.lt k f; omega
  · rcases e with e | e
    · exact h4 k e
    · omega
/-- A call that only reads. -/
theorem Try.Two.reads {B : Nat} {w0 w : World} {a b : Nat} {sa sb : DS} (h : Try.Two B w0 w a b sa sb) {f : FuncId} {args : Array Value} {R : Ending → World → Prop}
    (hc : ∀ l t V, Try.Mem w a l t V sa (Dk.lats sa.n sa.W) → Calls Try.prog f args w R) : Calls Try.prog f args w R := by
  obtain ⟨oa, ob, h1, h2, h3, h4, h5⟩ := h.ex
  obtain ⟨l, t, V, hm, hf⟩ := h1.ex
  exact hc l t V hm
theorem Try.One.reads {B : Nat} {w0 w : World} {a : Nat} {sa : DS} (h : Try.One B w0 w a sa) {f : FuncId} {args : Array Value} {R : Ending → World → Prop}
    (hc : ∀ l t V, Try.Mem w a l t V sa (Dk.lats sa.n sa.W) → Calls Try.prog f args w R) : Calls Try.prog f args w R := by
  obtain ⟨oa, h1, h2⟩ := h.ex
  obtain ⟨l, t, V, hm, hf⟩ := h1.ex
  exact hc l t V hm
theorem Try.left_nil {w w' : World} {x l t : Nat} {V : Value} {s' : DS} (hW : s'.W = []) (hm : Try.Mem w' x l t (.slice none 0 0) s' (Dk.lats s'.n [])) (hw : Dk.Wo (fun k => k = x ∨ k = l ∨ k = t) w w') : Try.Left w w' x l t V s' :=
  ⟨_, by rw [hW]; exact hm, hw.mono fun k e => by
    rcases e with e | e | e
    · exact .inl e
    · exact .inr (.inl e)
    · exact .inr (.inr (.inl e)), fun k e => by cases e⟩
/-- The raw number c, of n things. -/
def Dk.pickN (c : Int) (n : Nat) : Nat := (if c < 0 then -(c + 1) else c).toNat % n
theorem Dk.pickN_lt (c : Int) {n : Nat} (h : 0 < n) : Dk.pickN c n < n := Nat.mod_lt _ h
theorem Dk.pick_neg {c : Int} {n : Nat} (hc : c < 0) : -(c + 1).tmod (n : Int) = ((Dk.pickN c n : Nat) : Int) := by
  obtain ⟨m, hm⟩ : ∃ m : Nat, -(c + 1) = (m : Int) := ⟨(-(c + 1)).toNat, by omega⟩
  have h1 : c + 1 = -(m : Int) := by omega
  rw [Dk.pickN, if_pos hc, hm, h1, Int.neg_tmod, Int.neg_neg, ← Int.ofNat_tmod]; rfl
theorem Dk.pick_pos {c : Int} {n : Nat} (hc : 0 ≤ c) : c % (n : Int) = ((Dk.pickN c n : Nat) : Int) := by
  obtain ⟨m, rfl⟩ : ∃ m : Nat, c = (m : Int) := ⟨c.toNat, by omega⟩
  rw [Dk.pickN, if_neg (by omega)]; rfl
set_option maxHeartbeats 1000000 in
theorem Try.pick_any (c : Int) (n : Nat) (hn : 0 < n) (hn2 : n < 1000000) (h1 : -9223372036854775808 ≤ c) (h2 : c ≤ 9223372036854775807) (w : World) :
    Calls Try.prog 10 #[.int .i64 c, .int .i64 n] w fun e w' => e = .returned (.int .i64 (Dk.pickN c n)) ∧ w' = w := by
  by_cases hc : c < 0
  · have e := Dk.pick_neg (n := n) hc
    have HE : Hid _ := e
    clear e
    go_enter Try.func10, Try.ntmps10
    go_wp2
    go_ret
    exact ⟨by rw [← HE.out]; rfl, rfl⟩
  · have e := Dk.pick_pos (c := c) (n := n) (by omega)
    have HE : Hid _ := e
    clear e
    go_enter Try.func10, Try.ntmps10
    go_wp2
    go_ret
    exact ⟨by rw [← HE.out]; rfl, rfl⟩
/-- A number of 64 bits. -/
def Dk.I64 (c : Int) : Prop := -9223372036854775808 ≤ c ∧ c ≤ 9223372036854775807
/-- What a Put writes. -/
def Dk.bytesOf (N C : Int) : List UInt8 := List.replicate (Dk.pickN N 65) (UInt8.ofNat (97 + Dk.pickN C 26))
theorem Dk.bytesOf_len (N C : Int) : (Dk.bytesOf N C).length ≤ 64 := by simp only [Dk.bytesOf, List.length_replicate]; have := Dk.pickN_lt N (n := 65) (by omega); omega
set_option maxRecDepth 5000 in
set_option maxHeartbeats 1000000 in
theorem Try.bytes_any (I N C : Int) (b : Bool) (hN : Dk.I64 N) (hC : Dk.I64 C) (w : World) :
    Calls Try.prog 11 #[.agg #[.int .i64 I, .int .i64 N, .int .i64 C, .bool b]] w fun e w' => ∃ v, e = .returned v ∧ Dk.Src w' v (Dk.bytesOf N C) ∧ Below w.heap.size w w' := by
  have hpN := Try.pick_any N 65 (by omega) (by omega) hN.1 hN.2
  have hpC := Try.pick_any C 26 (by omega) (by omega) hC.1 hC.2
  obtain ⟨m, hm⟩ : ∃ m, m = Dk.pickN N 65 := ⟨_, rfl⟩
  obtain ⟨ch, hch⟩ : ∃ ch, ch = Dk.pickN C 26 := ⟨_, rfl⟩
  have hm65 : m < 65 := by rw [hm]; exact Dk.pickN_lt _ (by omega)
  have hc26 : ch < 26 := by rw [hch]; exact Dk.pickN_lt _ (by omega)
  rw [← hm] at hpN
  rw [← hch] at hpC
  have HB : Hid (Dk.bytesOf N C = List.replicate m (UInt8.ofNat (97 + ch))) := by rw [Dk.bytesOf, ← hm, ← hch]; exact rfl
  clear hm hch hN hC
  go_enter Try.func11, Try.ntmps11
  go_wp2
  go_loopw [3, 4] (fun v i wr => ∃ k : Nat, k ≤ m ∧ i = .int .i64 k ∧ wr.ownsRow (w.heap.size + 1) 5 1 v k (Lib.byteCells (List.replicate k (UInt8.ofNat (97 + ch)))) ∧ wr.heap[w.heap.size]? = some (.cells #[.int .i64 I, .int .i64 N, .int .i64 C, .bool b] 28 (0, 0)) ∧ Below w.heap.size w wr) (fun _ i _ => m - (intOf i).toNat)
  case atStart => exact ⟨0, by omega, rfl, World.ownsRow_nil _ _ _ _, heap_alloc_new w _, (Below.refl w.heap.size w).alloc (Nat.le_refl _) _⟩
  case round =>
    obtain ⟨k, hk, rfl, hrow, hbox, hbel⟩ := hrel
    have d1 : wr.cell? ⟨w.heap.size, 1, none⟩ = some (.int .i64 N) := by rw [cell_of_row _ _ _ _ _ _ hbox]; rfl
    have d2 : wr.cell? ⟨w.heap.size, 2, none⟩ = some (.int .i64 C) := by rw [cell_of_row _ _ _ _ _ _ hbox]; rfl
    have HROW : Hid (wr.ownsRow (w.heap.size + 1) 5 1 u3 k (Lib.byteCells (List.replicate k (UInt8.ofNat (97 + ch))))) := hrow
    clear hrow
    by_cases hkm : k < m
    · have q0 : (k : Int) < (m : Int) := by omega
      obtain ⟨i0, hi0, hz0, hz1, hz2⟩ := info_parts Try.info_u8
      have hsz := hbel.size
      have hwl : w.heap.size < wr.heap.size := Dk.block_lt hbox
      have hwr : (97 + (ch : Int)) % 256 = 97 + (ch : Int) := by omega
      go_wp2_with (first
        | (go_at_call 10; refine (hpN _).mono ?_; clear hpN; rintro e w2 ⟨rfl, rfl⟩)
        | (go_at_call 10; refine (hpC _).mono ?_; clear hpC; rintro e w2 ⟨rfl, rfl⟩)
        | (at_builtin; refine wpList_append_own _ rfl _ _ 33 rfl (w.heap.size + 1) 5 i0 _ 1 1 Try.underlying33 hi0 hz0 hz1 hz2 rfl (by omega) u3 k (Lib.byteCells (List.replicate k (UInt8.ofNat (97 + ch)))) rfl (HROW.out.alloc _) ⟨w2.heap.size, 0, none⟩ 1 1 [.int .u8 (97 + (ch : Int))] rfl rfl (World.news_of_block (cs := #[.int .u8 (97 + (ch : Int))]) (t := 5) (fr := (0, 0)) (heap_alloc_new w2 _)) (by simp [Value.oneCell']) (by unfold maxLen; omega) (by omega) (by simp; omega) ?_; intro v' w3 hown hgrow _)
        | fail)
      go_roundw
      case rel => 
        have hbel2 : Below (w.heap.size + 1) w2 w3 := (((Below.refl (w.heap.size + 1) w2).alloc (by omega) _)).grown hgrow (by simp; omega) (fun k hk => (HROW.out.lt k hk).1)
        refine ⟨k + 1, by omega, by go_num, ?_, (hbel2.block _ (by omega)).trans hbox, hbel.trans (hbel2.mono (by omega))⟩
        have e : Lib.byteCells (List.replicate k (UInt8.ofNat (97 + ch))) ++ [Value.int .u8 (97 + (ch : Int))] = Lib.byteCells (List.replicate (k + 1) (UInt8.ofNat (97 + ch))) := by
          have h8 : (UInt8.ofNat (97 + ch)).toNat = 97 + ch := by rw [UInt8.toNat_ofNat_of_lt' (by show 97 + ch < 256; omega)]
          have e1 : [Value.int .u8 (97 + (ch : Int))] = Lib.byteCells [UInt8.ofNat (97 + ch)] := by simp only [Lib.byteCells, List.map_cons, List.map_nil, h8]; rfl
          rw [e1, List.replicate_succ']
          simp only [Lib.byteCells, List.map_append]
        rw [← e]; exact hown
      case measure => simp [intOf]; omega
    · have q0 : ¬ (k : Int) < (m : Int) := by omega
      have HK : Hid (k = m) := by have : k = m := by omega
                                  exact this
      go_wp2_with (first
        | (go_at_call 10; refine (hpN _).mono ?_; clear hpN; rintro e w2 ⟨rfl, rfl⟩)
        | fail)
      go_ret
      refine ⟨_, rfl, ?_, hbel⟩
      have hr := HROW.out
      rw [HK.out] at hr
      rw [HB.out]
      have hl : (List.replicate m (UInt8.ofNat (97 + ch))).length = m := by simp
      rcases hr.2 with ⟨e1, e2⟩ | ⟨g, cap, cur, e1, hb, hg, hcap, hmax, hcs, htk⟩
      · subst e2
        exact ⟨none, 0, by rw [e1]; rfl, .inl rfl⟩
      · refine ⟨some ⟨g, 0, none⟩, cap, by rw [e1, hl]; rfl, .inr ⟨g, 0, rfl, Dk.block_lt hg, fun j u hj => ?_⟩⟩
        have hj' := (List.getElem?_eq_some_iff.1 hj).1
        rw [Dk.byteCells_len, hl] at hj'
        rw [Nat.zero_add, cell_of_row _ _ _ _ _ _ hg, ← Array.getElem?_toList]
        rw [← htk, List.getElem?_take, if_pos (by omega)] at hj
        exact hj
end Go.Proofs
