/-
  THINGS WRITTEN: WriteList of numbers, writes, beyond.
-/
import Derived.Test.YtdefebinnmimgaaVn
import Derived.Deep.DeepCutAuto
namespace Go.Wi
open Go.RowKit Go.Proofs
/-- Numbers, written one behind the other. -/
def zs (li : List Int) : List UInt8 := li.flatMap fun n => cnt (zig n)
theorem zs_app (a b : List Int) : zs (a ++ b) = zs a ++ zs b := by simp [zs]
def In64 (n : Int) : Prop := -9223372036854775808 ≤ n ∧ n ≤ 9223372036854775807
theorem zs_len (li : List Int) (h : ∀ n ∈ li, In64 n) : li.length ≤ (zs li).length ∧ (zs li).length ≤ 10 * li.length := by
  induction li with
  | nil => simp [zs]
  | cons n r ih =>
    have h1 := cnt_len10 (zig_lt (h n (by simp)).1 (h n (by simp)).2)
    have h2 := ih fun m hm => h m (by simp [hm])
    have e : zs (n :: r) = cnt (zig n) ++ zs r := rfl
    rw [e, List.length_append, List.length_cons]
    omega
/-- Numbers that lie somewhere. -/
structure Is (w : World) (v : Value) (li : List Int) : Prop where
  ex : ∃ ad cap, v = .slice ad li.length cap ∧ (li = [] ∨ ∃ g o, ad = some ⟨g, o, none⟩ ∧ g < w.heap.size ∧ ∀ j (hj : j < li.length), w.cell? ⟨g, o + j, none⟩ = some (.int .i64 li[j]))
  ok : ∀ n ∈ li, In64 n
theorem Is.up {w w' : World} {v : Value} {li : List Int} (h : Is w v li) (g : Below w.heap.size w w') : Is w' v li := by
  obtain ⟨ad, cap, rfl, h1⟩ := h.ex
  refine ⟨⟨ad, cap, rfl, ?_⟩, h.ok⟩
  rcases h1 with h1 | ⟨gg, o, rfl, hg, h1⟩
  · exact .inl h1
  · exact .inr ⟨gg, o, rfl, Nat.lt_of_lt_of_le hg g.size, fun j hj => (g.cell (p := ⟨gg, o + j, none⟩) hg).trans (h1 j hj)⟩
/-- A thing's bytes. -/
def tb (p : Wi.Th) (li : List Int) : List UInt8 :=
  if Wi.kd p.k = 0 then cnt (zig p.n) else if Wi.kd p.k = 1 then [if p.y then 1 else 0] else if Wi.kd p.k = 2 then cnt p.s.size ++ p.s.data.toList else cnt li.length ++ zs li
def wt (p : Wi.Th) (li : List Int) : Nat := 10 + p.s.size + 10 * li.length
theorem tb_len (p : Wi.Th) (li : List Int) (hn : In64 p.n) (hs : p.s.size < 18446744073709551616) (hl : li.length < 18446744073709551616) (h : ∀ n ∈ li, In64 n) : 1 ≤ (tb p li).length ∧ (tb p li).length ≤ wt p li := by
  unfold tb wt
  have h1 := cnt_len10 (zig_lt hn.1 hn.2)
  have h2 := cnt_len10 hs
  have h3 := cnt_len10 hl
  have h4 := zs_len li h
  have hd : p.s.data.toList.length = p.s.size := rfl
  split
  · omega
  · split
    · simp; omega
    · split
      · rw [List.length_append, hd]; omega
      · rw [List.length_append]; omega
def tbs (f : Wi.Th → List Int) (q : List Wi.Th) : List UInt8 := q.flatMap fun p => tb p (f p)
def wts (f : Wi.Th → List Int) (q : List Wi.Th) : Nat := (q.map fun p => wt p (f p)).sum
theorem tbs_snoc (f : Wi.Th → List Int) (q : List Wi.Th) (p : Wi.Th) : tbs f (q ++ [p]) = tbs f q ++ tb p (f p) := by simp [tbs]
theorem wts_snoc (f : Wi.Th → List Int) (q : List Wi.Th) (p : Wi.Th) : wts f (q ++ [p]) = wts f q + wt p (f p) := by simp [wts]
theorem wts_take (f : Wi.Th → List Int) (q : List Wi.Th) (k : Nat) : wts f (q.take k) ≤ wts f q := by
  have h : q = q.take k ++ q.drop k := (List.take_append_drop k q).symm
  have e : wts f q = wts f (q.take k) + wts f (q.drop k) := by
    unfold wts
    rw [← List.sum_append_nat, ← List.map_append, List.take_append_drop]
  omega
/-- What is asked of the things that came in. -/
structure Full (w : World) (f : Wi.Th → List Int) (q : List Wi.Th) : Prop where
  is : ∀ p ∈ q, Is w p.lv (f p)
  ss : ∀ p ∈ q, p.s.size ≤ 140737488351232
  ls : ∀ p ∈ q, (f p).length ≤ 140737488351232
  ns : ∀ p ∈ q, In64 p.k ∧ In64 p.n
theorem tbs_len (w : World) (f : Wi.Th → List Int) : ∀ (q : List Wi.Th), Full w f q → q.length ≤ (tbs f q).length ∧ (tbs f q).length ≤ wts f q
  | [], _ => by simp [tbs, wts]
  | p :: r, h => by
    have h1 := tb_len p (f p) (h.ns p (by simp)).2 (by have := h.ss p (by simp); omega) (by have := h.ls p (by simp); omega) (h.is p (by simp)).ok
    have h2 := tbs_len w f r ⟨fun x hx => h.is x (by simp [hx]), fun x hx => h.ss x (by simp [hx]), fun x hx => h.ls x (by simp [hx]), fun x hx => h.ns x (by simp [hx])⟩
    have e : tbs f (p :: r) = tb p (f p) ++ tbs f r := rfl
    have e2 : wts f (p :: r) = wt p (f p) + wts f r := by simp [wts]
    rw [e, e2, List.length_append, List.length_cons]
    omega
end Go.Wi
namespace Go.Proofs
open Go.RowKit Go.Wi
set_option maxHeartbeats 1000000 in
theorem Try.wCount {B : Nat} {w0 w : World} {x : Nat} {l : List UInt8} (h : Try.WB B w0 w x l) (n : Nat) (hn : n < 18446744073709551616) (hlen : l.length ≤ 140737488355300) :
    Calls Try.prog 47 #[.pointer (some ⟨x, 0, none⟩), .int .u64 n] w fun e w' => (∃ v, e = .returned v) ∧ Try.WB B w0 w' x (l ++ cnt n) := by
  obtain ⟨own, h1, h2⟩ := h.ex
  exact (Try.count_any h1 n hn hlen).mono fun _ _ ⟨e1, e2⟩ => ⟨e1, h.chg h2 e2⟩
set_option maxHeartbeats 1000000 in
theorem Try.wOne {B : Nat} {w0 w : World} {x : Nat} {l : List UInt8} (h : Try.WB B w0 w x l) (n : Int) (hn : In64 n) (hlen : l.length ≤ 140737488355300) :
    Calls Try.prog 60 #[.pointer (some ⟨x, 0, none⟩), .int .i64 n] w fun e w' => (∃ v, e = .returned v) ∧ Try.WB B w0 w' x (l ++ cnt (zig n)) := by
  have h1 := h.int n hn.1 hn.2 hlen
  clear hlen hn
  go_enter Try.func60, Try.ntmps60
  go_wp2_with (first | (go_at_call 17; refine h1.mono ?_; clear h1; rintro e w2 ⟨⟨v, rfl⟩, h2⟩) | fail)
  go_end0
  exact ⟨⟨_, rfl⟩, h2⟩
set_option maxHeartbeats 2000000 in
theorem Try.funcNil (T : TypeId) (hT : T = 100 ∨ T = 71) (f : FuncId) (w : World) : (binOp .eql T (.func (.func f) #[] #[]) .nilFunc).run Try.prog w = .ok (.bool false) w := by
  rcases hT with rfl | rfl
  · kernel_rfl
  · kernel_rfl
set_option maxHeartbeats 2000000 in
theorem Try.writeList_any {w0 w : World} {y : Nat} {l : List UInt8} {lv : Value} {li : List Int} (h : Try.WB w0.heap.size w0 w y l) (hI : Is w0 lv li) (hlen : l.length + 10 * li.length ≤ 140737488355000) :
    Calls Try.prog 59 #[.pointer (some ⟨y, 0, none⟩), lv, .func (.func 60) #[] #[]] w fun e w' => (∃ v, e = .returned v) ∧ Try.WB w0.heap.size w0 w' y (l ++ (cnt li.length ++ zs li)) := by
  obtain ⟨ad, cap, rfl, hcs⟩ := hI.ex
  have h1 := Try.wCount h li.length (by omega) (by omega)
  have hw64 : IntKind.u64.wrap (li.length : Int) = li.length := by rw [IntKind.wrap_u64]; omega
  have hcl := cnt_len10 (n := li.length) (by omega)
  have Hcl : Hid (1 ≤ (cnt li.length).length ∧ (cnt li.length).length ≤ 10) := hcl
  have Hlen : Hid (l.length + 10 * li.length ≤ 140737488355000) := hlen
  have hl63 : li.length ≤ 9223372036854775807 := by omega
  have Hok : Hid (∀ n ∈ li, In64 n) := hI.ok
  have hfn := Try.funcNil 100 (.inl rfl) 60
  clear hlen hcl h hI
  go_enter Try.func59, Try.ntmps59
  go_wp2_with (first
    | (go_at_call 47; refine h1.mono ?_; clear h1; rintro e w2 ⟨⟨v2, rfl⟩, hW2⟩)
    | fail)
  have HW2 : Hid (Try.WB w0.heap.size w0 w2 y (l ++ cnt li.length)) := hW2
  clear hW2
  go_loopw [7, 17] (fun _ i wr => ∃ k : Nat, k ≤ li.length ∧ i = .int .i64 k ∧ Try.WB w0.heap.size w0 wr y ((l ++ cnt li.length) ++ zs (li.take k))) (fun _ i _ => li.length - (intOf i).toNat)
  case atStart => exact ⟨0, Nat.zero_le _, rfl, by simpa [zs] using HW2.out⟩
  case round =>
    obtain ⟨k, hk, rfl, hW⟩ := hrel
    by_cases hkm : k < li.length
    · have q0 : (k : Int) < (li.length : Int) := by omega
      have hc : ∃ sb so, ad = some ⟨sb, so, none⟩ ∧ wr.cell? ⟨sb, so + k, none⟩ = some (.int .i64 li[k]) := by
        rcases hcs with rfl | ⟨sb, so, e, hb, h2⟩
        · simp at hkm
        · exact ⟨sb, so, e, (hW.bel.cell (p := ⟨sb, so + k, none⟩) hb).trans (h2 k hkm)⟩
      obtain ⟨sb, so, rfl, hc⟩ := hc
      have hzl := zs_len (li.take k) (fun n hn => Hok.out n (List.mem_of_mem_take hn))
      have Hzl : Hid (((l ++ cnt li.length) ++ zs (li.take k)).length ≤ 140737488355300) := (by
        have h2 := Hlen.out
        have h3 := Hcl.out
        rw [List.length_take] at hzl
        show ((l ++ cnt li.length) ++ zs (li.take k)).length ≤ _
        rw [List.length_append, List.length_append]; omega)
      have h3 := Try.wOne hW li[k] (Hok.out _ (List.getElem_mem hkm)) Hzl.out
      have Hz : Hid (((l ++ cnt li.length) ++ zs (li.take k)) ++ cnt (zig li[k]) = (l ++ cnt li.length) ++ zs (li.take (k + 1))) := (by
        have e : zs (li.take (k + 1)) = zs (li.take k) ++ cnt (zig li[k]) := by
          rw [← List.take_append_getElem hkm, zs_app]; simp [zs]
        show _ = _
        rw [e, List.append_assoc (l ++ cnt li.length)])
      clear hzl hcs
      go_wp2_with (first
        | (go_at_call 60; refine h3.mono ?_; clear h3; rintro e w4 ⟨⟨v4, rfl⟩, hW4⟩)
        | fail)
      go_roundw
      case rel => exact ⟨k + 1, by omega, by go_num, by rw [← Hz.out]; exact hW4⟩
      case measure => simp [intOf]; omega
    · have q0 : ¬ (k : Int) < (li.length : Int) := by omega
      have hkk : k = li.length := by omega
      subst hkk
      go_wp2
      go_end0
      refine ⟨⟨_, rfl⟩, ?_⟩
      rw [List.take_length, List.append_assoc] at hW
      exact hW
def Wi.thV (p : Wi.Th) : Value := .agg #[.int .i64 p.k, .int .i64 p.n, .bool p.y, .string p.s, p.lv]
theorem Wi.kd_lt (k : Int) : Wi.kd k < 4 := Nat.mod_lt _ (by decide)
set_option maxHeartbeats 2000000 in
theorem Try.writes_any {w0 w : World} {y : Nat} {l : List UInt8} (h : Try.WB w0.heap.size w0 w y l) (p : Wi.Th) (li : List Int) (hI : Is w0 p.lv li) (hk : In64 p.k) (hn : In64 p.n) (hlen : l.length + wt p li ≤ 140737488355000) :
    Calls Try.prog 39 #[.pointer (some ⟨y, 0, none⟩), Wi.thV p] w fun e w' => (∃ v, e = .returned v) ∧ Try.WB w0.heap.size w0 w' y (l ++ tb p li) := by
  obtain ⟨k, n, yy, s, lv⟩ := p
  obtain ⟨ad, cap, e, -⟩ := hI.ex
  simp only at e
  subst e
  simp only [Wi.thV]
  have Hk : Hid (In64 k) := hk
  have Hn : Hid (In64 n) := hn
  have HI : Hid (Is w0 (.slice ad li.length cap) li) := hI
  have Hlen : Hid (l.length + (10 + s.size + 10 * li.length) ≤ 140737488355000) := hlen
  have hbox : ∀ W : World, W = w.alloc (.cells #[.int .i64 k, .int .i64 n, .bool yy, .string s, .slice ad li.length cap] 34) → Below w.heap.size w W ∧ W.heap[w.heap.size]? = some (.cells #[.int .i64 k, .int .i64 n, .bool yy, .string s, .slice ad li.length cap] 34 (0, 0)) := fun W hW => by
    subst hW
    exact ⟨(Below.refl _ w).alloc (Nat.le_refl _) _, heap_alloc_new w _⟩
  obtain ⟨hb0, hc0⟩ := hbox _ rfl
  have hkd := Try.kind_any k n yy s ad li.length cap (w.alloc (.cells #[.int .i64 k, .int .i64 n, .bool yy, .string s, .slice ad li.length cap] 34)) hk
  have hW4 : ∀ W, Below (w.alloc (.cells #[.int .i64 k, .int .i64 n, .bool yy, .string s, .slice ad li.length cap] 34)).heap.size (w.alloc (.cells #[.int .i64 k, .int .i64 n, .bool yy, .string s, .slice ad li.length cap] 34)) W → Try.WB w0.heap.size w0 W y l ∧ W.heap[w.heap.size]? = some (.cells #[.int .i64 k, .int .i64 n, .bool yy, .string s, .slice ad li.length cap] 34 (0, 0)) := fun W hW =>
    ⟨(h.below hb0).below hW, (hW.block _ (block_lt hc0)).trans hc0⟩
  clear hbox hb0 hc0 hk hn hI hlen h
  have hkl := Wi.kd_lt k
  go_enter Try.func39, Try.ntmps39
  have hk4 : Wi.kd k = 0 ∨ Wi.kd k = 1 ∨ Wi.kd k = 2 ∨ Wi.kd k = 3 := by omega
  clear hkl
  rcases hk4 with e | e | e | e
  · rw [e] at hkd
    have Ht : Hid (tb ⟨k, n, yy, s, .slice ad li.length cap⟩ li = cnt (zig n)) := (by show _ = _; unfold tb; simp only [e]; rfl)
    clear e
    go_wp2_with (first
      | (go_at_call 14; refine hkd.mono ?_; clear hkd; rintro e w4 ⟨rfl, hb4⟩; obtain ⟨hWB4, hx4⟩ := hW4 w4 hb4; have c1 := cell_of_row w4 _ 1 _ _ _ hx4; have h4 := hWB4.int n Hn.out.1 Hn.out.2 (Nat.le_trans (Nat.le_of_add_right_le Hlen.out) (by decide)); clear hx4)
      | (go_at_call 17; refine h4.mono ?_; clear h4; rintro e w5 ⟨⟨v5, rfl⟩, hW5⟩)
      | fail)
    go_end0
    exact ⟨⟨_, rfl⟩, by rw [Ht.out]; exact hW5⟩
  · rw [e] at hkd
    have Ht : Hid (tb ⟨k, n, yy, s, .slice ad li.length cap⟩ li = [if yy then 1 else 0]) := (by show _ = _; unfold tb; simp only [e]; rfl)
    clear e
    go_wp2_with (first
      | (go_at_call 14; refine hkd.mono ?_; clear hkd; rintro e w4 ⟨rfl, hb4⟩; obtain ⟨hWB4, hx4⟩ := hW4 w4 hb4; have c1 := cell_of_row w4 _ 2 _ _ _ hx4; have h4 := hWB4.flag yy (Nat.le_trans (Nat.le_of_add_right_le Hlen.out) (by decide)); clear hx4)
      | (go_at_call 19; refine h4.mono ?_; clear h4; rintro e w5 ⟨⟨v5, rfl⟩, hW5⟩)
      | fail)
    go_end0
    exact ⟨⟨_, rfl⟩, by rw [Ht.out]; exact hW5⟩
  · rw [e] at hkd
    have Ht : Hid (tb ⟨k, n, yy, s, .slice ad li.length cap⟩ li = cnt s.size ++ s.data.toList) := (by show _ = _; unfold tb; simp only [e]; rfl)
    clear e
    go_wp2_with (first
      | (go_at_call 14; refine hkd.mono ?_; clear hkd; rintro e w4 ⟨rfl, hb4⟩; obtain ⟨hWB4, hx4⟩ := hW4 w4 hb4; have c1 := cell_of_row w4 _ 3 _ _ _ hx4; have h4 := hWB4.text s (by have := Hlen.out; omega); clear hx4)
      | (go_at_call 21; refine h4.mono ?_; clear h4; rintro e w5 ⟨⟨v5, rfl⟩, hW5⟩)
      | fail)
    go_end0
    exact ⟨⟨_, rfl⟩, by rw [Ht.out]; exact hW5⟩
  · rw [e] at hkd
    have Ht : Hid (tb ⟨k, n, yy, s, .slice ad li.length cap⟩ li = cnt li.length ++ zs li) := (by show _ = _; unfold tb; simp only [e]; rfl)
    clear e
    go_wp2_with (first
      | (go_at_call 14; refine hkd.mono ?_; clear hkd; rintro e w4 ⟨rfl, hb4⟩; obtain ⟨hWB4, hx4⟩ := hW4 w4 hb4; have c1 := cell_of_row w4 _ 4 _ _ _ hx4; have h4 := Try.writeList_any hWB4 HI.out (by have := Hlen.out; omega); clear hx4)
      | (go_at_call 59; refine h4.mono ?_; clear h4; rintro e w5 ⟨⟨v5, rfl⟩, hW5⟩)
      | fail)
    go_end0
    exact ⟨⟨_, rfl⟩, by rw [Ht.out]; exact hW5⟩
end Go.Proofs
