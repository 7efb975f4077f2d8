/-
  The document's disk: Write.
-/
import Derived.Test.YtnfpocpeglfdbaaDyD
import Derived.Deep.AppendLies
namespace Go.Proofs
open Go.RowKit Go.Dk
theorem Try.info_wr : (Try.prog.info? 82).map (fun i => (i.zero.map (·.cells.size), i.size, i.bytes)) = some (some 2, 2, 24) := by kernel_rfl
/-- 'append' of a write, at a step of a region that draws its order. -/
theorem Try.stepW {ops : Array Oper} {o : Oper} {a : Act} {K : Act → World → Prop} {Q : Exit → Act → World → Prop} {E : Prop} (hgd : o.guard = none) (s y : Operand)
    (ho : o.op = .call { callee := .builtin .append, args := #[s, y], argTypes := #[67, 67] })
    {w : World} {H : Nat} {V : Value} {n : Nat} {W0 : List Wr} {p : Wr} (hrow : w.ownsRow 0 82 2 V n (Dk.prs W0)) (hs : a.eval s = V) (hnb : w.heap[H]? = some (.cells #[.int .i64 (p.1 : Nat), .string ⟨p.2.toArray⟩] 82 (0, 0))) (hy : a.eval y = .slice (some ⟨H, 0, none⟩) 1 1) (hlen : n ≤ 1000000)
    (hK : ∀ g cap w', w'.ownsRow 0 82 2 (.slice (some ⟨g, 0, none⟩) (n + 1) cap) (n + 1) (Dk.prs (W0 ++ [p])) → w.grownBy w' V.ownBlock → (V.ownBlock = some g ∨ g = w.heap.size) → K (a.put o.dst (.slice (some ⟨g, 0, none⟩) (n + 1) cap)) w') : if Region.wanted o (yielded ops a.tmps) = true then Oper.wp Try.prog o a w K Q else E := by
  obtain ⟨i0, hi0, hi1⟩ := Option.map_eq_some_iff.1 Try.info_wr
  simp only [Prod.mk.injEq] at hi1
  obtain ⟨hz0, hz1, hz2⟩ := hi1
  obtain ⟨zz, hzz, hzs⟩ := Option.map_eq_some_iff.1 hz0
  refine step_append_lies w hgd s y 67 ho 0 82 i0 zz 2 24 Try.underlying67 hi0 hzz hz1 hz2 hzs (by omega) V n _ hs hrow ⟨H, 0, none⟩ 1 1 [.int .i64 (p.1 : Nat), .string ⟨p.2.toArray⟩] hy rfl (World.news_of_block hnb) (by simp [Value.oneCell']) (by omega) (by unfold maxLen; omega) (by omega) (Nat.zero_le _) _ rfl ?_
  intro g cap w' h1 h2 h3 h4
  have e : Dk.prs W0 ++ [.int .i64 (p.1 : Nat), .string ⟨p.2.toArray⟩] = Dk.prs (W0 ++ [p]) := by rw [Dk.prs_app]; rfl
  rw [e] at h1
  exact hK g cap w' h1 h2 h3
theorem Try.rWrite_dead {w : World} {x : Nat} {Lv Wv : Value} {left k t : Int} {s : DS} (h : Try.Rfm w x Lv Wv left k t s) (hd : s.dead = true) (i : Int) (b : ByteArray) :
    Calls Try.prog 30 #[.pointer (some ⟨x, 0, none⟩), .int .i64 i, .string b] w fun e w' => e = .returned (.int .i64 41) ∧ w' = w := by
  obtain ⟨-, -, c2, -⟩ := h.c
  rw [hd] at c2
  clear h
  go_enter Try.func30, Try.ntmps30
  go_wp2
  go_ret
  exact ⟨rfl, rfl⟩
set_option maxRecDepth 4000 in
theorem Try.rWrite_no {w : World} {x : Nat} {Lv Wv : Value} {left k t : Int} {s : DS} (h : Try.Rfm w x Lv Wv left k t s) (hd : s.dead = false) (i : Int) (b : ByteArray) (hi : ¬ (0 ≤ i ∧ i < s.n) ∨ 64 < b.size) :
    Calls Try.prog 30 #[.pointer (some ⟨x, 0, none⟩), .int .i64 i, .string b] w fun e w' => e = .returned (.int .i64 40) ∧ w' = w := by
  obtain ⟨c0, -, c2, -⟩ := h.c
  obtain ⟨ad, cap, rfl, -⟩ := Dk.rowForm h.lr
  rw [hd] at c2
  clear h
  have Hi : Hid (¬ (0 ≤ i ∧ i < s.n) ∨ 64 < b.size) := hi
  clear hi
  by_cases h0 : i < 0
  · go_enter Try.func30, Try.ntmps30
    go_wp2
    go_ret
    exact ⟨rfl, rfl⟩
  · by_cases h1 : (s.n : Int) ≤ i
    · go_enter Try.func30, Try.ntmps30
      go_wp2
      go_ret
      exact ⟨rfl, rfl⟩
    · have h2 : (64 : Int) < (b.size : Int) := by have := Hi.out; omega
      go_enter Try.func30, Try.ntmps30
      go_wp2
      go_ret
      exact ⟨rfl, rfl⟩
theorem Try.run_makeZ (n : Nat) (hn : n < 1000000) (w : World) : (Instr.makeSlice 55 (.int .i64 n) (.int .i64 n)).run Try.prog w = .ok (.slice (some ⟨w.heap.size, 0, none⟩) n n) (w.alloc (.cells (Lib.byteCells (List.replicate n 0)).toArray 5)) := by
  obtain ⟨i0, hi0, hz0, hz1, hz2⟩ := info_parts Try.info_u8
  have := run_make (P := Try.prog) w 55 5 i0 _ Try.underlying55 hi0 hz0 .i64 .i64 n n (by omega) (by omega) (by rw [hz2]; omega) (by omega)
  rw [this, hz1]
  have e := Dk.made (Z := (Value.int .u8 0).cells) n (.int .u8 0) (by decide) (fun j hj => by
    have : j = 0 := by simp [Value.cells] at hj; omega
    subst this; rfl)
  rw [Dk.zeros] at e
  rw [← e, show ((n : Int)).toNat = n from rfl, Nat.mul_one]
/-- Bytes as a text. -/
theorem Try.convY {W : World} {g n c : Nat} {m : List UInt8} {fr : Nat × Nat} (h : W.heap[g]? = some (.cells (Lib.byteCells m).toArray 5 fr)) (hm : m.length = n) :
    (convert 55 9 (.slice (some ⟨g, 0, none⟩) n c)).run Try.prog W = .ok (.string ⟨m.toArray⟩) W := by
  subst hm
  refine run_convert_bytes_back (P := Try.prog) W 55 9 5 ⟨g, 0, none⟩ c m Try.underlying55 Try.underlying5 Try.underlying9 (fun j hj => ?_)
  rw [Addr.add_mid, Nat.zero_add, cell_of_row _ _ _ _ _ _ h]
  simp [Lib.byteCells, hj]
theorem Dk.pad_cat (b : ByteArray) (P : Nat) (hP : P = 64 - b.size) : b ++ ⟨Array.replicate P (0 : UInt8)⟩ = ⟨(pad b.data.toList).toArray⟩ := by
  apply ByteArray.ext
  apply Array.ext'
  rw [ByteArray.data_append, Array.toList_append, Array.toList_replicate, hP]
  rfl
/-- What a Write leaves. -/
structure Try.RWr (w w' : World) (x : Nat) (Lv Wv : Value) (k t : Int) (s' : DS) : Prop where
  ex : ∃ Wv' left', Try.Rfm w' x Lv Wv' left' k t s' ∧ Dk.Wo (Dk.rfoot x Lv Wv) w w' ∧ ∀ j, Wv'.ownBlock = some j → Wv.ownBlock = some j ∨ w.heap.size ≤ j
theorem Try.Rfm.laid {w A w' : World} {x : Nat} {Lv Wv : Value} {left k t : Int} {s : DS} (h : Try.Rfm w x Lv Wv left k t s) (hA : Below w.heap.size w A) {i : Nat} {b : List UInt8} (hi : i < s.n) (hb : b.length ≤ 64) (hw1 : s.W.length < 1000000) {g c2 : Nat} (r1 : w'.ownsRow 0 82 2 (.slice (some ⟨g, 0, none⟩) (s.W.length + 1) c2) (s.W.length + 1) (Dk.prs (s.W ++ [(i, pad b)]))) (r2 : A.grownBy w' Wv.ownBlock) (r3 : Wv.ownBlock = some g ∨ g = A.heap.size) :
    w'.cell? ⟨x, 1, none⟩ = some Wv ∧ w'.frozen? ⟨x, 1, none⟩ = false ∧ Try.Rfm (w'.setCell ⟨x, 1, none⟩ (.slice (some ⟨g, 0, none⟩) (s.W.length + 1) c2)) x Lv (.slice (some ⟨g, 0, none⟩) (s.W.length + 1) c2) left k t (s.lay i b) ∧ Dk.Wo (Dk.rfoot x Lv Wv) w (w'.setCell ⟨x, 1, none⟩ (.slice (some ⟨g, 0, none⟩) (s.W.length + 1) c2)) ∧ (Wv.ownBlock = some g ∨ w.heap.size ≤ g) := by
  have hsA := hA.size
  have hfl := h.foot_lt
  have hxl := hfl x (.inl rfl)
  have hx : w'.heap[x]? = some (.cells (Dk.rfc Lv Wv left k t s) 69 (0, 0)) := ((r2.block x (by omega) (fun e => (h.wx x e.symm).1 rfl)).trans (hA.block x hxl)).trans h.hx
  have hL : ∀ j, Lv.ownBlock = some j → w'.heap[j]? = w.heap[j]? := fun j e => (r2.block j (by have := hfl j (.inr (.inl e)); omega) (fun e2 => (h.wx j e2.symm).2 e)).trans (hA.block j (hfl j (.inr (.inl e))))
  have hgx : g ≠ x := fun e => by
    rcases r3 with e2 | e2
    · exact (h.wx g e2).1 e
    · omega
  have hgL : Lv.ownBlock ≠ some g := fun e => by
    rcases r3 with e2 | e2
    · exact (h.wx g e2).2 e
    · have := hfl g (.inr (.inl e)); omega
  have hot : ∀ j, j ≠ x → (w'.setCell ⟨x, 1, none⟩ (.slice (some ⟨g, 0, none⟩) (s.W.length + 1) c2)).heap[j]? = w'.heap[j]? := fun j hj => Below.heap_setCell w' ⟨x, 1, none⟩ _ j hj
  have hx2 := heap_setCell_same w' x 1 _ 69 (.slice (some ⟨g, 0, none⟩) (s.W.length + 1) c2) hx
  have hl : (s.W ++ [(i, pad b)]).length = s.W.length + 1 := by simp
  refine ⟨cell_of_row w' x 1 _ _ _ hx, frozen_of_row w' x 1 _ _ hx, ⟨hx2, h.hf, Dk.row_heap h.lr fun j e => (hot j (h.lx j e)).trans (hL j e), ?_, h.lx, fun j e => ?_, h.lL, h.good.append (GoodW.one hi (pad_length hb)), h.n0, h.n1, ?_⟩, ?_, ?_⟩
  · show (w'.setCell _ _).ownsRow 0 _ 2 _ (s.W ++ [(i, pad b)]).length (Dk.prs (s.W ++ [(i, pad b)]))
    rw [hl]
    exact Dk.row_heap r1 fun j e => hot j (by cases e; exact hgx)
  · cases e; exact ⟨hgx, hgL⟩
  · show (s.W ++ [(i, pad b)]).length ≤ _
    rw [hl]; omega
  · refine Dk.Wo.setCell ?_ x 1 _ (.inl (.inl rfl))
    have h1 : Dk.Wo (Dk.rfoot x Lv Wv) w A := (Dk.Wo.refl _ w).below hA (Nat.le_refl _)
    exact ⟨r2.os.trans h1.os, r2.tape.trans h1.tape, r2.output.trans h1.output, Nat.le_trans h1.size r2.size, fun j hj hb2 => (r2.block j (by omega) (fun e => hb2 (.inr (.inr e.symm)))).trans (h1.block j hj hb2)⟩
  · rcases r3 with e | e
    · exact .inl e
    · exact .inr (by omega)
set_option maxRecDepth 4000 in
set_option maxHeartbeats 4000000 in
theorem Try.rWrite_ok1 {w : World} {x : Nat} {Lv Wv : Value} {left k t : Int} {s : DS} (h : Try.Rfm w x Lv Wv left k t s) (hd : s.dead = false) (i : Nat) (hi : i < s.n) (b : ByteArray) (hb : b.size ≤ 64) (hw1 : s.W.length < 1000000) (hs : s.fset = false) (hwr : s.wrote < 1000000000) :
    Calls Try.prog 30 #[.pointer (some ⟨x, 0, none⟩), .int .i64 i, .string b] w fun e w' => e = .returned (.int .i64 0) ∧ Try.RWr w w' x Lv Wv k t (s.put i b.data.toList) := by
  obtain ⟨c0, c1, c2, -⟩ := h.c
  obtain ⟨ad, cap, rfl, -⟩ := Dk.rowForm h.lr
  rw [hd] at c2
  have q0 : (0 : Int) ≤ (i : Int) := by omega
  have q1 : ¬ (i : Int) < 0 := by omega
  have q2 : ¬ (s.n : Int) ≤ (i : Int) := by omega
  have q3 : ¬ (64 : Int) < (b.size : Int) := by omega
  obtain ⟨P, hP⟩ : ∃ P, P = 64 - b.size := ⟨_, rfl⟩
  have hP2 : IntKind.i64.wrap (64 - (b.size : Int)) = (P : Int) := by rw [IntKind.wrap_i64]; omega
  have hmk := Try.run_makeZ P (by omega)
  have hcv : (convert 55 9 (.slice (some ⟨w.heap.size, 0, none⟩) P P)).run Try.prog (w.alloc (.cells (Lib.byteCells (List.replicate P 0)).toArray 5)).drew = .ok (.string ⟨(List.replicate P 0).toArray⟩) (w.alloc (.cells (Lib.byteCells (List.replicate P 0)).toArray 5)).drew := Try.convY (heap_alloc_new w _) (by simp)
  have hpc := Dk.pad_cat b P hP
  have hbp : ¬ 9223372036854775807 < b.size + P := by omega
  have hxl : x < w.heap.size := Dk.block_lt h.hx
  have d1 : ∀ o, (w.alloc o).cell? ⟨x, 1, none⟩ = some Wv := fun o => (((Below.refl w.heap.size w).alloc (Nat.le_refl _) o).cell (p := ⟨x, 1, none⟩) hxl).trans c1
  have d2 : ∀ o o2, ((w.alloc o).alloc o2).cell? ⟨x, 1, none⟩ = some Wv := fun o o2 => ((((Below.refl w.heap.size w).alloc (Nat.le_refl _) o).alloc (by simp) o2).cell (p := ⟨x, 1, none⟩) hxl).trans c1
  have HM : Hid (Try.Rfm w x (.slice ad s.n cap) Wv left k t s) := h
  obtain ⟨A, hA⟩ : ∃ A : World, A = (w.alloc (.cells (Lib.byteCells (List.replicate P 0)).toArray 5)).alloc (.cells #[.int .i64 (i : Nat), .string ⟨(pad b.data.toList).toArray⟩] 82) := ⟨_, rfl⟩
  have hAb : Below w.heap.size w A.drew := by rw [hA]; exact (((Below.refl _ w).alloc (Nat.le_refl _) _).alloc (by simp) _).drew
  have hAn : A.drew.heap[w.heap.size + 1]? = some (.cells #[.int .i64 (i : Nat), .string ⟨(pad b.data.toList).toArray⟩] 82 (0, 0)) := by
    have e : (w.alloc (.cells (Lib.byteCells (List.replicate P 0)).toArray 5)).heap.size = w.heap.size + 1 := by simp
    rw [hA, ← e]
    exact heap_alloc_new _ _
  have hrow : A.drew.ownsRow 0 82 2 Wv s.W.length (Dk.prs s.W) := Dk.row_heap HM.out.wr fun j e => hAb.block j (HM.out.wr.lt j e).2
  have hend := fun (g c2 : Nat) (w' : World) r1 r2 r3 => Try.Rfm.laid (w' := w') h hAb (b := b.data.toList) hi (by show b.size ≤ 64; exact hb) hw1 (g := g) (c2 := c2) r1 r2 r3
  have Hs : Hid (s.fset = false) := hs
  have Hwr : Hid (s.wrote < 1000000000) := hwr
  clear hs hwr
  clear h hxl hP hAb hd
  go_enter Try.func30, Try.ntmps30
  go_wp2
  go_region_law (first
    | (rw [← hA]; refine Try.stepW (by rfl) (.tmp 32) (.tmp 42) (by rfl) (w := A.drew) (V := Wv) (n := s.W.length) (H := w.heap.size + 1) (p := (i, pad b.data.toList)) hrow (by rfl) hAn (by rfl) (by omega) ?_; intro g c2 w' r1 r2 r3; obtain ⟨s1, s2, s3⟩ := hend g c2 w' r1 r2 r3; have S3 : Hid (Try.Rfm (w'.setCell ⟨x, 1, none⟩ (.slice (some ⟨g, 0, none⟩) (s.W.length + 1) c2)) x (.slice ad s.n cap) (.slice (some ⟨g, 0, none⟩) (s.W.length + 1) c2) left k t (s.lay i b.data.toList) ∧ Dk.Wo (Dk.rfoot x (.slice ad s.n cap) Wv) w (w'.setCell ⟨x, 1, none⟩ (.slice (some ⟨g, 0, none⟩) (s.W.length + 1) c2)) ∧ (Wv.ownBlock = some g ∨ w.heap.size ≤ g)) := s3; clear s3 r1 r2 r3)
    | fail)
  all_goals
    obtain ⟨hM, hwo, hgw⟩ := S3.out
    generalize w'.setCell ⟨x, 1, none⟩ (.slice (some ⟨g, 0, none⟩) (s.W.length + 1) c2) = W5 at *
    clear S3 hend hrow hAn hA hpc hmk hcv d1 d2 HM s1 s2
    obtain ⟨-, -, -, k3, k4, k5, k6, k7, -⟩ := hM.c
    have f4 := frozen_of_row _ x 4 _ _ hM.hx
    have f7 := frozen_of_row _ x 7 _ _ hM.hx
    replace k3 : W5.cell? ⟨x, 3, none⟩ = some (.bool false) := k3.trans (by rw [show (s.lay i b.data.toList).fset = false from Hs.out])
    replace k7 : W5.cell? ⟨x, 7, none⟩ = some (.int .i64 (s.wrote : Int)) := k7
    have hfw : wrap64 ((s.wrote : Int) + 1) = (s.wrote : Int) + 1 := by have := Hwr.out; unfold wrap64; omega
    have h1 := hM.set 7 (.int .i64 ((s.wrote : Int) + 1)) (left' := left) (k' := k) (t' := t) (s' := { (s.lay i b.data.toList) with wrote := s.wrote + 1 }) rfl hM.hf rfl rfl rfl
    have e9 : ({ (s.lay i b.data.toList) with wrote := s.wrote + 1 } : DS) = s.put i b.data.toList := by unfold DS.lay DS.put; rw [if_neg (by rw [Hs.out]; decide)]
    rw [e9] at h1
    have H1 : Hid (Try.RWr w (W5.setCell ⟨x, 7, none⟩ (.int .i64 ((s.wrote : Int) + 1))) x (.slice ad s.n cap) Wv k t (s.put i b.data.toList)) := ⟨_, _, h1, hwo.setCell x 7 _ (.inl (.inl rfl)), fun j e => by cases e; exact hgw⟩
    clear h1 hM hwo e9
    go_wp2
    go_ret
    exact ⟨rfl, H1.out⟩
set_option maxRecDepth 4000 in
set_option maxHeartbeats 4000000 in
theorem Try.rWrite_ok2 {w : World} {x : Nat} {Lv Wv : Value} {left k t : Int} {s : DS} (h : Try.Rfm w x Lv Wv left k t s) (hd : s.dead = false) (i : Nat) (hi : i < s.n) (b : ByteArray) (hb : b.size ≤ 64) (hw1 : s.W.length < 1000000) (hs : s.fset = true) (hf0 : 0 < s.fl) (hf1 : s.fl ≤ 9223372036854775807) (hwr : s.wrote < 1000000000) :
    Calls Try.prog 30 #[.pointer (some ⟨x, 0, none⟩), .int .i64 i, .string b] w fun e w' => e = .returned (.int .i64 0) ∧ Try.RWr w w' x Lv Wv k t (s.put i b.data.toList) := by
  obtain ⟨c0, c1, c2, -⟩ := h.c
  obtain ⟨ad, cap, rfl, -⟩ := Dk.rowForm h.lr
  rw [hd] at c2
  have q0 : (0 : Int) ≤ (i : Int) := by omega
  have q1 : ¬ (i : Int) < 0 := by omega
  have q2 : ¬ (s.n : Int) ≤ (i : Int) := by omega
  have q3 : ¬ (64 : Int) < (b.size : Int) := by omega
  obtain ⟨P, hP⟩ : ∃ P, P = 64 - b.size := ⟨_, rfl⟩
  have hP2 : IntKind.i64.wrap (64 - (b.size : Int)) = (P : Int) := by rw [IntKind.wrap_i64]; omega
  have hmk := Try.run_makeZ P (by omega)
  have hcv : (convert 55 9 (.slice (some ⟨w.heap.size, 0, none⟩) P P)).run Try.prog (w.alloc (.cells (Lib.byteCells (List.replicate P 0)).toArray 5)).drew = .ok (.string ⟨(List.replicate P 0).toArray⟩) (w.alloc (.cells (Lib.byteCells (List.replicate P 0)).toArray 5)).drew := Try.convY (heap_alloc_new w _) (by simp)
  have hpc := Dk.pad_cat b P hP
  have hbp : ¬ 9223372036854775807 < b.size + P := by omega
  have hxl : x < w.heap.size := Dk.block_lt h.hx
  have d1 : ∀ o, (w.alloc o).cell? ⟨x, 1, none⟩ = some Wv := fun o => (((Below.refl w.heap.size w).alloc (Nat.le_refl _) o).cell (p := ⟨x, 1, none⟩) hxl).trans c1
  have d2 : ∀ o o2, ((w.alloc o).alloc o2).cell? ⟨x, 1, none⟩ = some Wv := fun o o2 => ((((Below.refl w.heap.size w).alloc (Nat.le_refl _) o).alloc (by simp) o2).cell (p := ⟨x, 1, none⟩) hxl).trans c1
  have HM : Hid (Try.Rfm w x (.slice ad s.n cap) Wv left k t s) := h
  obtain ⟨A, hA⟩ : ∃ A : World, A = (w.alloc (.cells (Lib.byteCells (List.replicate P 0)).toArray 5)).alloc (.cells #[.int .i64 (i : Nat), .string ⟨(pad b.data.toList).toArray⟩] 82) := ⟨_, rfl⟩
  have hAb : Below w.heap.size w A.drew := by rw [hA]; exact (((Below.refl _ w).alloc (Nat.le_refl _) _).alloc (by simp) _).drew
  have hAn : A.drew.heap[w.heap.size + 1]? = some (.cells #[.int .i64 (i : Nat), .string ⟨(pad b.data.toList).toArray⟩] 82 (0, 0)) := by
    have e : (w.alloc (.cells (Lib.byteCells (List.replicate P 0)).toArray 5)).heap.size = w.heap.size + 1 := by simp
    rw [hA, ← e]
    exact heap_alloc_new _ _
  have hrow : A.drew.ownsRow 0 82 2 Wv s.W.length (Dk.prs s.W) := Dk.row_heap HM.out.wr fun j e => hAb.block j (HM.out.wr.lt j e).2
  have hend := fun (g c2 : Nat) (w' : World) r1 r2 r3 => Try.Rfm.laid (w' := w') h hAb (b := b.data.toList) hi (by show b.size ≤ 64; exact hb) hw1 (g := g) (c2 := c2) r1 r2 r3
  have Hs : Hid (s.fset = true) := hs
  have Hlf : Hid (left = s.fl ∧ k = s.fk ∧ t = s.ft) := h.hf hs
  have Hwr : Hid (s.wrote < 1000000000) := hwr
  have q5 : (left == 0) = false := by rw [Hlf.out.1]; simp; omega
  have q6 : ¬ left = 0 := by rw [Hlf.out.1]; omega
  have q7 : left - 1 ≤ 9223372036854775807 := by rw [Hlf.out.1]; omega
  have q8 : -9223372036854775808 ≤ left - 1 := by rw [Hlf.out.1]; omega
  clear hs hwr hf0 hf1
  clear h hxl hP hAb hd
  go_enter Try.func30, Try.ntmps30
  go_wp2
  go_region_law (first
    | (rw [← hA]; refine Try.stepW (by rfl) (.tmp 32) (.tmp 42) (by rfl) (w := A.drew) (V := Wv) (n := s.W.length) (H := w.heap.size + 1) (p := (i, pad b.data.toList)) hrow (by rfl) hAn (by rfl) (by omega) ?_; intro g c2 w' r1 r2 r3; obtain ⟨s1, s2, s3⟩ := hend g c2 w' r1 r2 r3; have S3 : Hid (Try.Rfm (w'.setCell ⟨x, 1, none⟩ (.slice (some ⟨g, 0, none⟩) (s.W.length + 1) c2)) x (.slice ad s.n cap) (.slice (some ⟨g, 0, none⟩) (s.W.length + 1) c2) left k t (s.lay i b.data.toList) ∧ Dk.Wo (Dk.rfoot x (.slice ad s.n cap) Wv) w (w'.setCell ⟨x, 1, none⟩ (.slice (some ⟨g, 0, none⟩) (s.W.length + 1) c2)) ∧ (Wv.ownBlock = some g ∨ w.heap.size ≤ g)) := s3; clear s3 r1 r2 r3)
    | fail)
  all_goals
    obtain ⟨hM, hwo, hgw⟩ := S3.out
    generalize w'.setCell ⟨x, 1, none⟩ (.slice (some ⟨g, 0, none⟩) (s.W.length + 1) c2) = W5 at *
    clear S3 hend hrow hAn hA hpc hmk hcv d1 d2 HM s1 s2
    obtain ⟨-, -, -, k3, k4, k5, k6, k7, -⟩ := hM.c
    have f4 := frozen_of_row _ x 4 _ _ hM.hx
    have f7 := frozen_of_row _ x 7 _ _ hM.hx
    replace k3 : W5.cell? ⟨x, 3, none⟩ = some (.bool true) := k3.trans (by rw [show (s.lay i b.data.toList).fset = true from Hs.out])
    replace k7 : W5.cell? ⟨x, 7, none⟩ = some (.int .i64 (s.wrote : Int)) := k7
    have hfw : wrap64 ((s.wrote : Int) + 1) = (s.wrote : Int) + 1 := by have := Hwr.out; unfold wrap64; omega
    have hfl : wrap64 (left - 1) = left - 1 := by unfold wrap64; omega
    have h0 := hM.set 4 (.int .i64 (left - 1)) (left' := left - 1) (k' := k) (t' := t) (s' := { (s.lay i b.data.toList) with fl := s.fl - 1 }) rfl (fun _ => ⟨by rw [Hlf.out.1], Hlf.out.2.1, Hlf.out.2.2⟩) rfl rfl rfl
    have h1 := h0.set 7 (.int .i64 ((s.wrote : Int) + 1)) (left' := left - 1) (k' := k) (t' := t) (s' := { (s.lay i b.data.toList) with fl := s.fl - 1, wrote := s.wrote + 1 }) rfl h0.hf rfl rfl rfl
    have e9 : ({ (s.lay i b.data.toList) with fl := s.fl - 1, wrote := s.wrote + 1 } : DS) = s.put i b.data.toList := by unfold DS.lay DS.put; rw [if_pos Hs.out]
    rw [e9] at h1
    have H1 : Hid (Try.RWr w ((W5.setCell ⟨x, 4, none⟩ (.int .i64 (left - 1))).setCell ⟨x, 7, none⟩ (.int .i64 ((s.wrote : Int) + 1))) x (.slice ad s.n cap) Wv k t (s.put i b.data.toList)) := ⟨_, _, h1, (hwo.setCell x 4 _ (.inl (.inl rfl))).setCell x 7 _ (.inl (.inl rfl)), fun j e => by cases e; exact hgw⟩
    clear h1 h0 hM hwo e9
    go_wp2
    go_ret
    exact ⟨rfl, H1.out⟩
set_option maxRecDepth 4000 in
set_option maxHeartbeats 4000000 in
theorem Try.rWrite_blow {w : World} {x : Nat} {Lv Wv : Value} {left k t : Int} {s : DS} (h : Try.Rfm w x Lv Wv left k t s) (hd : s.dead = false) (i : Nat) (hi : i < s.n) (b : ByteArray) (hb : b.size ≤ 64) (hw1 : s.W.length < 1000000) (hs : s.fset = true) (hf0 : s.fl = 0) (hfa : s.falls < 1000000000) :
    Calls Try.prog 30 #[.pointer (some ⟨x, 0, none⟩), .int .i64 i, .string b] w fun e w' => e = .returned (.int .i64 41) ∧ Try.RWr w w' x Lv Wv k t ((s.lay i b.data.toList).fail s.fk s.ft) := by
  obtain ⟨c0, c1, c2, -⟩ := h.c
  obtain ⟨ad, cap, rfl, -⟩ := Dk.rowForm h.lr
  rw [hd] at c2
  have q0 : (0 : Int) ≤ (i : Int) := by omega
  have q1 : ¬ (i : Int) < 0 := by omega
  have q2 : ¬ (s.n : Int) ≤ (i : Int) := by omega
  have q3 : ¬ (64 : Int) < (b.size : Int) := by omega
  obtain ⟨P, hP⟩ : ∃ P, P = 64 - b.size := ⟨_, rfl⟩
  have hP2 : IntKind.i64.wrap (64 - (b.size : Int)) = (P : Int) := by rw [IntKind.wrap_i64]; omega
  have hmk := Try.run_makeZ P (by omega)
  have hcv : (convert 55 9 (.slice (some ⟨w.heap.size, 0, none⟩) P P)).run Try.prog (w.alloc (.cells (Lib.byteCells (List.replicate P 0)).toArray 5)).drew = .ok (.string ⟨(List.replicate P 0).toArray⟩) (w.alloc (.cells (Lib.byteCells (List.replicate P 0)).toArray 5)).drew := Try.convY (heap_alloc_new w _) (by simp)
  have hpc := Dk.pad_cat b P hP
  have hbp : ¬ 9223372036854775807 < b.size + P := by omega
  have hxl : x < w.heap.size := Dk.block_lt h.hx
  have d1 : ∀ o, (w.alloc o).cell? ⟨x, 1, none⟩ = some Wv := fun o => (((Below.refl w.heap.size w).alloc (Nat.le_refl _) o).cell (p := ⟨x, 1, none⟩) hxl).trans c1
  have d2 : ∀ o o2, ((w.alloc o).alloc o2).cell? ⟨x, 1, none⟩ = some Wv := fun o o2 => ((((Below.refl w.heap.size w).alloc (Nat.le_refl _) o).alloc (by simp) o2).cell (p := ⟨x, 1, none⟩) hxl).trans c1
  have HM : Hid (Try.Rfm w x (.slice ad s.n cap) Wv left k t s) := h
  obtain ⟨A, hA⟩ : ∃ A : World, A = (w.alloc (.cells (Lib.byteCells (List.replicate P 0)).toArray 5)).alloc (.cells #[.int .i64 (i : Nat), .string ⟨(pad b.data.toList).toArray⟩] 82) := ⟨_, rfl⟩
  have hAb : Below w.heap.size w A.drew := by rw [hA]; exact (((Below.refl _ w).alloc (Nat.le_refl _) _).alloc (by simp) _).drew
  have hAn : A.drew.heap[w.heap.size + 1]? = some (.cells #[.int .i64 (i : Nat), .string ⟨(pad b.data.toList).toArray⟩] 82 (0, 0)) := by
    have e : (w.alloc (.cells (Lib.byteCells (List.replicate P 0)).toArray 5)).heap.size = w.heap.size + 1 := by simp
    rw [hA, ← e]
    exact heap_alloc_new _ _
  have hrow : A.drew.ownsRow 0 82 2 Wv s.W.length (Dk.prs s.W) := Dk.row_heap HM.out.wr fun j e => hAb.block j (HM.out.wr.lt j e).2
  have hend := fun (g c2 : Nat) (w' : World) r1 r2 r3 => Try.Rfm.laid (w' := w') h hAb (b := b.data.toList) hi (by show b.size ≤ 64; exact hb) hw1 (g := g) (c2 := c2) r1 r2 r3
  have Hs : Hid (s.fset = true) := hs
  have Hlf : Hid (left = 0 ∧ k = s.fk ∧ t = s.ft) := ⟨(h.hf hs).1.trans hf0, (h.hf hs).2⟩
  have Hfa : Hid (s.falls < 1000000000) := hfa
  clear hs hf0 hfa
  clear h hxl hP hAb hd
  go_enter Try.func30, Try.ntmps30
  go_wp2
  go_region_law (first
    | (rw [← hA]; refine Try.stepW (by rfl) (.tmp 32) (.tmp 42) (by rfl) (w := A.drew) (V := Wv) (n := s.W.length) (H := w.heap.size + 1) (p := (i, pad b.data.toList)) hrow (by rfl) hAn (by rfl) (by omega) ?_; intro g c2 w' r1 r2 r3; obtain ⟨s1, s2, s3⟩ := hend g c2 w' r1 r2 r3; have S3 : Hid (Try.Rfm (w'.setCell ⟨x, 1, none⟩ (.slice (some ⟨g, 0, none⟩) (s.W.length + 1) c2)) x (.slice ad s.n cap) (.slice (some ⟨g, 0, none⟩) (s.W.length + 1) c2) left k t (s.lay i b.data.toList) ∧ Dk.Wo (Dk.rfoot x (.slice ad s.n cap) Wv) w (w'.setCell ⟨x, 1, none⟩ (.slice (some ⟨g, 0, none⟩) (s.W.length + 1) c2)) ∧ (Wv.ownBlock = some g ∨ w.heap.size ≤ g)) := s3; clear s3 r1 r2 r3)
    | fail)
  all_goals
    obtain ⟨hM, hwo, hgw⟩ := S3.out
    generalize w'.setCell ⟨x, 1, none⟩ (.slice (some ⟨g, 0, none⟩) (s.W.length + 1) c2) = W5 at *
    clear S3 hend hrow hAn hA hpc hmk hcv d1 d2 HM s1 s2
    obtain ⟨-, -, -, k3, k4, k5, k6, k7, -⟩ := hM.c
    have f4 := frozen_of_row _ x 4 _ _ hM.hx
    have f7 := frozen_of_row _ x 7 _ _ hM.hx
    replace k3 : W5.cell? ⟨x, 3, none⟩ = some (.bool true) := k3.trans (by rw [show (s.lay i b.data.toList).fset = true from Hs.out])
    replace k4 : W5.cell? ⟨x, 4, none⟩ = some (.int .i64 0) := k4.trans (by rw [Hlf.out.1])
    have hF := Try.rFalls1 hM Hfa.out k t
    have Hwo : Hid (Dk.Wo (Dk.rfoot x (.slice ad s.n cap) Wv) w W5) := hwo
    clear hM hwo
    go_wp2_with (first
      | (go_at_call 35; refine hF.mono ?_; clear hF; rintro e w7 ⟨⟨v7, rfl⟩, hM7, hwo7⟩)
      | fail)
    go_ret
    rw [← Hlf.out.2.1, ← Hlf.out.2.2]
    exact ⟨rfl, ⟨_, _, hM7, Hwo.out.trans (hwo7.mono fun j e => e.elim .inl fun e => .inr (.inl e)), fun j e => by cases e⟩⟩
end Go.Proofs
