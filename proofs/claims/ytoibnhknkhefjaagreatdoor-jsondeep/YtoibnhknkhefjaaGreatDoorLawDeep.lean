/-
  JsonDeep: the walk.
-/
import Derived.Test.YtoibnhknkhefjaaGreatDoorOi
import Derived.Test.YtoibnhknkhefjaaGreatDoorJz
namespace Go.Jv
open Go.Proofs (Jv.kA Jv.kB)
/-- A value of that many levels. -/
def dv (l : Bool) : Nat → V
  | 0 => .int 7
  | k + 1 => if l then .list [dv l k, .bool true] else .obj [Go.Proofs.Jv.kA, Go.Proofs.Jv.kB] [dv l k, .bool true]
def dvA (l : Bool) : List UInt8 := if l then [91] else [123, 34, 97, 34, 58]
def dvB (l : Bool) : List UInt8 := if l then [44, 116, 114, 117, 101, 93] else [44, 34, 98, 34, 58, 116, 114, 117, 101, 125]
theorem dv_t (k : Nat) : dv true (k + 1) = .list [dv true k, .bool true] := rfl
theorem dv_f (k : Nat) : dv false (k + 1) = .obj [Go.Proofs.Jv.kA, Go.Proofs.Jv.kB] [dv false k, .bool true] := rfl
theorem pr_dv0 (l : Bool) : pr (dv l 0) = [55] := by cases l <;> kernel_rfl
theorem pr_dv (l : Bool) (k : Nat) : pr (dv l (k + 1)) = dvA l ++ pr (dv l k) ++ dvB l := by
  cases l
  · rw [dv_f]
    have ha : qText Go.Proofs.Jv.kA = [34, 97, 34] := by kernel_rfl
    have hb : qText Go.Proofs.Jv.kB = [34, 98, 34] := by kernel_rfl
    simp [pr, prO, comma, dvA, dvB, ha, hb]
  · rw [dv_t]
    simp [pr, prL, comma, dvA, dvB]
theorem pr_dv_len (l : Bool) (k : Nat) : (pr (dv l k)).length ≤ 1 + 15 * k := by
  induction k with
  | zero => rw [pr_dv0]; decide
  | succ k ih =>
    rw [pr_dv]
    have h1 : (dvA l).length ≤ 5 := by cases l <;> decide
    have h2 : (dvB l).length ≤ 10 := by cases l <;> decide
    simp only [List.length_append]
    omega
theorem place_a : place [Go.Proofs.Jv.kA, Go.Proofs.Jv.kB] Go.Proofs.Jv.kA = 0 := by kernel_rfl
theorem getV_dv (k : Nat) : getV (dv false (k + 1)) Go.Proofs.Jv.kA = some (dv false k) := by
  rw [dv_f, getV_obj, place_a]
  rfl
theorem look_dv : ∀ (m k : Nat), lookV (dv false k) (List.replicate m Go.Proofs.Jv.kA) = if m ≤ k then some (dv false (k - m)) else none
  | 0, k => by simp [lookV]
  | m + 1, 0 => by rw [List.replicate_succ, lookV_none (by rfl)]; simp
  | m + 1, k + 1 => by
    rw [List.replicate_succ, lookV_step (getV_dv k), look_dv m k]
    by_cases h : m ≤ k
    · rw [if_pos h, if_pos (by omega), show k + 1 - (m + 1) = k - m by omega]
    · rw [if_neg h, if_neg (by omega)]
theorem look_dl (m k : Nat) : lookV (dv true k) (List.replicate (m + 1) Go.Proofs.Jv.kA) = none := by
  rw [List.replicate_succ]
  refine lookV_none ?_
  cases k <;> rfl
/-- What stands in such a value. -/
def Deep (l : Bool) (v : V) : Prop := (∃ k, v = dv l k) ∨ v = .bool true
theorem Deep.obj {l : Bool} {ks : List ByteArray} {vs : List V} (h : Deep l (.obj ks vs)) : ks.length ≤ 64 ∧ vs.length = ks.length ∧ ∀ u ∈ vs, Deep l u := by
  rcases h with ⟨k, h⟩ | h
  · cases k with
    | zero => cases h
    | succ k =>
      cases l
      · rw [dv_f] at h
        injection h with h1 h2
        subst h1 h2
        refine ⟨by decide, rfl, fun u hu => ?_⟩
        simp only [List.mem_cons, List.not_mem_nil, or_false] at hu
        rcases hu with rfl | rfl
        · exact .inl ⟨k, rfl⟩
        · exact .inr rfl
      · rw [dv_t] at h; cases h
  · cases h
end Go.Jv
namespace Go.Proofs
open Go.RowKit Go.Jv Go.Sort Go.Maps
theorem Jv.ba_app (a b : List UInt8) : (⟨a.toArray⟩ : ByteArray) ++ ⟨b.toArray⟩ = ⟨(a ++ b).toArray⟩ := by
  apply ByteArray.ext
  simp [ByteArray.data_append]
theorem Jv.dv_text (l : Bool) (k : Nat) : (⟨(dvA l).toArray⟩ : ByteArray) ++ ⟨(pr (dv l k)).toArray⟩ ++ ⟨(dvB l).toArray⟩ = ⟨(pr (dv l (k + 1))).toArray⟩ := by
  rw [pr_dv, Jv.ba_app, Jv.ba_app]
/-- A value of k levels, and a path of k parts. -/
structure Tryz.Dw (w wr : World) (l : Bool) (k x : Nat) (p : Value) : Prop where
  tr : Tryz.Tr wr (fun g => p.ownBlock ≠ some g) (dv l k) x
  row : wr.ownsRow w.heap.size 9 1 p k (List.replicate k (.string Jv.kA))
  bel : Below w.heap.size w wr
theorem Tryz.Dw.next {w wr W W5 : World} {l : Bool} {k x y : Nat} {p : Value} {o : Obj} {g cap : Nat} (h : Tryz.Dw w wr l k x p) (hb : Below wr.heap.size wr W) (ht : Tryz.Tr W (fun g => p.ownBlock ≠ some g) (dv l (k + 1)) y) (hg : (W.alloc o).grownBy W5 p.ownBlock) (ho : W5.ownsRow w.heap.size 9 1 (.slice (some ⟨g, 0, none⟩) (k + 1) cap) (k + 1) (List.replicate k (.string Jv.kA) ++ [.string Jv.kA])) (hat : p.ownBlock = some g ∨ g = W.heap.size + 1) :
    Tryz.Dw w W5 l (k + 1) y (.slice (some ⟨g, 0, none⟩) (k + 1) cap) := by
  have hz := h.bel.size
  have hz2 := hb.size
  have hz3 : W.heap.size < W5.heap.size := by have := hg.size; simp at this; omega
  have hkeep : ∀ k, k < W.heap.size → p.ownBlock ≠ some k → W5.heap[k]? = W.heap[k]? := fun k hk e => (hg.block k (by simp; omega) (fun e1 => e e1.symm)).trans (Below.heap_alloc W o k hk)
  refine ⟨?_, ?_, ?_⟩
  · refine Tryz.Tr_mono (fun g' h1 _ => ?_) _ _ (Tryz.Tr_keep (w := W) (ok := fun g' => p.ownBlock ≠ some g' ∧ g' < W.heap.size) (fun g' hg' hl => hkeep g' hl hg'.1) (Nat.le_of_lt hz3) _ _ (Tryz.Tr_mono (fun g' h1 h2 => ⟨h1, h2⟩) _ _ ht))
    intro e
    have e' : g = g' := by simpa [Value.ownBlock] using e
    subst e'
    rcases hat with h2 | h2
    · exact h1.1 h2
    · omega
  · rw [List.replicate_succ']
    exact ho
  · exact ((h.bel.trans (hb.mono hz)).alloc (by omega) o).grown hg (by simp; omega) (fun k hk => (Jv.row_lo h.row k hk).1)
def Jv.boolC : Array Value := #[.int .i64 1, .bool true, .int .i64 0, .string ⟨#[]⟩, .slice none 0 0, .slice none 0 0]
theorem Tryz.bool_tr {w : World} {ok : Nat → Prop} {x : Nat} (h : w.heap[x]? = some (.cells Jv.boolC 67 (0, 0))) (ho : ok x) : Tryz.Tr w ok (.bool true) x := by
  unfold Tryz.Tr
  exact ⟨ho, Jv.vb_of h⟩
/-- One level more, a list: what OfList is handed. -/
theorem Tryz.Dw.list {w wr : World} {k x : Nat} {p : Value} (h : Tryz.Dw w wr true k x p) :
    Calls Tryz.prog 23 #[.slice (some ⟨wr.heap.size + 1, 0, none⟩) 2 2] ((wr.alloc (.cells Jv.boolC 67)).alloc (.cells #[.pointer (some ⟨x, 0, none⟩), .pointer (some ⟨wr.heap.size, 0, none⟩)] 29)) fun e w' => ∃ y, e = .returned (.pointer (some ⟨y, 0, none⟩)) ∧ Tryz.Tr w' (fun g => p.ownBlock ≠ some g) (dv true (k + 1)) y ∧ Below wr.heap.size wr w' := by
  have hpl : ∀ g, p.ownBlock = some g → g < wr.heap.size := fun g e => (Jv.row_lo h.row g e).2
  have hb1 : Below wr.heap.size wr (wr.alloc (.cells Jv.boolC 67)) := (Below.refl _ _).alloc (Nat.le_refl _) _
  have hb2 : Below wr.heap.size wr ((wr.alloc (.cells Jv.boolC 67)).alloc (.cells #[.pointer (some ⟨x, 0, none⟩), .pointer (some ⟨wr.heap.size, 0, none⟩)] 29)) := hb1.alloc (by simp) _
  have hn := heap_alloc_new (wr.alloc (.cells Jv.boolC 67)) (.cells #[.pointer (some ⟨x, 0, none⟩), .pointer (some ⟨wr.heap.size, 0, none⟩)] 29)
  rw [World.size_alloc] at hn
  have hbo : ((wr.alloc (.cells Jv.boolC 67)).alloc (.cells #[.pointer (some ⟨x, 0, none⟩), .pointer (some ⟨wr.heap.size, 0, none⟩)] 29)).heap[wr.heap.size]? = some (.cells Jv.boolC 67 (0, 0)) := (Below.heap_alloc _ _ _ (by simp)).trans (heap_alloc_new wr _)
  refine (Tryz.ofList_two (v := dv true k) (u := .bool true) (ok := fun g => p.ownBlock ≠ some g) (cell_of_row _ _ 0 _ _ _ hn) (cell_of_row _ _ 1 _ _ _ hn) (Tryz.Tr_keep (fun g _ hl => hb2.block g hl) hb2.size _ _ h.tr) (Tryz.bool_tr hbo fun e => by have := hpl _ e; omega) (fun g hg e => by have := hpl _ e; have := hb2.size; omega)).mono ?_
  rintro e w' ⟨y, h1, h2, h3⟩
  exact ⟨y, h1, h2, hb2.trans (h3.mono hb2.size)⟩
/-- One level more, an object. -/
theorem Tryz.Dw.map {w wr : World} {k x : Nat} {p : Value} (h : Tryz.Dw w wr false k x p) :
    ∃ W2 W4, (Instr.mapUpdate 53 (.map (some wr.heap.size)) (.string ⟨#[97]⟩) (.pointer (some ⟨x, 0, none⟩))).run Tryz.prog (wr.alloc (.map #[] 0)) = .ok () W2 ∧
      (Instr.mapUpdate 53 (.map (some wr.heap.size)) (.string ⟨#[98]⟩) (.pointer (some ⟨W2.heap.size, 0, none⟩))).run Tryz.prog (W2.alloc (.cells Jv.boolC 67)) = .ok () W4 ∧
      Calls Tryz.prog 21 #[.map (some wr.heap.size)] W4 fun e w' => ∃ y, e = .returned (.pointer (some ⟨y, 0, none⟩)) ∧ Tryz.Tr w' (fun g => p.ownBlock ≠ some g) (dv false (k + 1)) y ∧ Below wr.heap.size wr w' := by
  have hpl : ∀ g, p.ownBlock = some g → g < wr.heap.size := fun g e => (Jv.row_lo h.row g e).2
  obtain ⟨W2, hr2, hm2, hg2⟩ := (World.ownsMap_made wr Tryz.prog 9 Jv.ptrR).update Tryz.strK Tryz.underlying53 (by unfold maxLen; omega) (WideMaps.keyOf_string_mk Tryz.underlying9 (s := Jv.kA) (by decide)) (Jv.ptrR_mk (some x))
  obtain ⟨W4, hr4, hm4, hg4⟩ := (hm2.alloc (.cells Jv.boolC 67)).update Tryz.strK Tryz.underlying53 (by unfold maxLen; omega) (WideMaps.keyOf_string_mk Tryz.underlying9 (s := Jv.kB) (by decide)) (Jv.ptrR_mk (some W2.heap.size))
  have hs2 : wr.heap.size + 1 ≤ W2.heap.size := by have := hg2.size; simpa using this
  have hs4 : W2.heap.size + 1 ≤ W4.heap.size := by have := hg4.size; simpa using this
  have hbe : Below wr.heap.size wr W4 := by
    refine ((((Below.refl wr.heap.size wr).alloc (Nat.le_refl _) _).grown hg2 (by simp) (fun k hk => ?_)).alloc (by omega) _).grown hg4 (by simp; omega) (fun k hk => ?_)
    · injection hk with hk; omega
    · injection hk with hk; omega
  have hbo : W4.heap[W2.heap.size]? = some (.cells Jv.boolC 67 (0, 0)) := (hg4.block _ (by simp) (fun e => by injection e with e; omega)).trans (heap_alloc_new W2 _)
  refine ⟨W2, W4, hr2, hr4, (Tryz.ofMap_ab (v := dv false k) (u := .bool true) (ok := fun g => p.ownBlock ≠ some g) hm4 (Tryz.Tr_keep (fun g _ hl => hbe.block g hl) hbe.size _ _ h.tr) (Tryz.bool_tr hbo fun e => by have := hpl _ e; omega) (fun g hg e => by have := hpl _ e; omega)).mono ?_⟩
  rintro e w' ⟨y, h1, h2, h3⟩
  exact ⟨y, h1, h2, hbe.trans (h3.mono hbe.size)⟩
/-- What stands in a value of a level and more. -/
theorem Tryz.dv_items {w : World} {ok : Nat → Prop} {l : Bool} {k x : Nat} (h : Tryz.Tr w ok (dv l (k + 1)) x) : ∃ kk kv gi ci y, Jv.Vb w x kk false 0 emp kv (.slice (some ⟨gi, 0, none⟩) 2 ci) ∧ w.cell? ⟨gi, 0, none⟩ = some (.pointer (some ⟨y, 0, none⟩)) ∧ Tryz.Tr w ok (dv l k) y := by
  cases l
  · rw [dv_f] at h
    unfold Tryz.Tr at h
    obtain ⟨_, kv, sv, xs, hvb, _, hir, htr, hlen⟩ := h
    obtain ⟨y, hy1, hy2⟩ := Tryz.Trs_get _ xs 0 (by simp) htr
    have hl2 : (Jv.ptrs xs).length = 2 := by simpa [Jv.ptrs] using hlen.symm
    obtain ⟨g, c, rfl, _, _, hcl⟩ := Jv.row_cells hir (by omega)
    rw [hl2] at hvb
    exact ⟨_, kv, g, c, y, hvb, hcl 0 _ (by simp [Jv.ptrs, hy1]), hy2⟩
  · rw [dv_t] at h
    unfold Tryz.Tr at h
    obtain ⟨_, sv, xs, hvb, hir, htr⟩ := h
    obtain ⟨y, hy1, hy2⟩ := Tryz.Trs_get _ xs 0 (by simp) htr
    have hl2 : (Jv.ptrs xs).length = 2 := by
      unfold Tryz.Trs at htr
      obtain ⟨a, r, rfl, _, htr⟩ := htr
      unfold Tryz.Trs at htr
      obtain ⟨b, r, rfl, _, htr⟩ := htr
      unfold Tryz.Trs at htr
      subst htr
      rfl
    obtain ⟨g, c, rfl, _, _, hcl⟩ := Jv.row_cells hir (by omega)
    rw [hl2] at hvb
    exact ⟨_, _, g, c, y, hvb, hcl 0 _ (by simp [Jv.ptrs, hy1]), hy2⟩
/-- Look along a row of a's. -/
theorem Tryz.dv_look {w : World} {ok : Nat → Prop} {l : Bool} {k x : Nat} (h : Tryz.Tr w ok (dv l k) x) (m g cap : Nat) (hm : m ≤ 1000000) (hc : ∀ i, i < m → w.cell? ⟨g, i, none⟩ = some (.string Jv.kA)) :
    Calls Tryz.prog 28 #[.pointer (some ⟨x, 0, none⟩), .slice (some ⟨g, 0, none⟩) m cap] w fun e w' => (∃ q, w' = w.drewN q) ∧ ((lookV (dv l k) (List.replicate m Jv.kA) = none ∧ e = .returned (.pointer none)) ∨ ∃ u y, lookV (dv l k) (List.replicate m Jv.kA) = some u ∧ e = .returned (.pointer (some ⟨y, 0, none⟩)) ∧ Tryz.Tr w ok u y) := by
  have := Tryz.look_any (Deep l) (fun ks vs h => h.obj) h (.inl ⟨k, rfl⟩) (List.replicate m Jv.kA) g cap (by simpa using hm) (fun i s hs => by
    rw [List.getElem?_replicate] at hs
    split at hs
    · cases hs; exact hc i (by assumption)
    · cases hs)
  rw [List.length_replicate] at this
  refine this.mono fun e w' ⟨h1, h2⟩ => ⟨h1, h2.imp id ?_⟩
  rintro ⟨u, y, q1, q2, q3, _⟩
  exact ⟨u, y, q1, q2, q3⟩
set_option maxRecDepth 100000 in
/-- append(path, a): behind it the value stands, and both paths. -/
theorem Tryz.deep_app {w w5 : World} {dp gp cp : Nat} (hrow : w5.ownsRow w.heap.size 9 1 (.slice (some ⟨gp, 0, none⟩) (1 + dp) cp) (1 + dp) (List.replicate (1 + dp) (.string Jv.kA))) (hbe : Below w.heap.size w w5) (hdp : dp < 1000) (q : Nat) :
    ∃ g8 c8 w8, (Builtin.append_ #[23, 23] 23 #[.slice (some ⟨gp, 0, none⟩) (1 + dp) cp, .slice (some ⟨w5.heap.size, 0, none⟩) 1 1]).run Tryz.prog ((w5.drewN q).alloc (.cells #[.string ⟨#[97]⟩] 9)) = .ok (.slice (some ⟨g8, 0, none⟩) (1 + dp + 1) c8) w8 ∧
      (∀ (v : V) (y : Nat), Tryz.Tr w5 (fun g => (Value.slice (some ⟨gp, 0, none⟩) (1 + dp) cp).ownBlock ≠ some g) v y → Tryz.Tr w8 (fun g => (Value.slice (some ⟨gp, 0, none⟩) (1 + dp) cp).ownBlock ≠ some g) v y) ∧ (∀ i, i < 1 + dp + 1 → w8.cell? ⟨g8, i, none⟩ = some (.string Jv.kA)) ∧ (∀ i, i < 1 + dp → w8.cell? ⟨gp, i, none⟩ = some (.string Jv.kA)) ∧ Below w.heap.size w w8 := by
  obtain ⟨jm, hjm, hy0, hy1, hy2⟩ := info_parts Tryz.info_strO
  have hz := hbe.size
  have hgp := Jv.row_lo hrow gp rfl
  have hrow6 : (w5.drewN q).ownsRow w.heap.size 9 1 (.slice (some ⟨gp, 0, none⟩) (1 + dp) cp) (1 + dp) (List.replicate (1 + dp) (.string Jv.kA)) := Jv.row_heapZ hrow fun _ _ => rfl
  have hnew := heap_alloc_new (w5.drewN q) (.cells #[.string ⟨#[97]⟩] 9)
  obtain ⟨g8, c8, w8, hap, hown8, hgr8, hold8⟩ := Jv.app_keep (P := Tryz.prog) ((w5.drewN q).alloc (.cells #[.string ⟨#[97]⟩] 9)) 23 23 9 jm _ 16 w.heap.size Tryz.underlying23 hjm hy0 hy1 hy2 rfl gp (1 + dp) cp _ (hrow6.alloc _) w5.heap.size 1 (.string ⟨#[97]⟩) (cell_of_row _ _ 0 _ _ _ hnew) rfl (by unfold maxLen; omega) (by omega) (by simp; show w.heap.size ≤ w5.heap.size + 1; omega)
  have hz8 : w5.heap.size < w8.heap.size := by have := hgr8.size; simp at this; exact this
  have hkeep : ∀ k, k < w5.heap.size → gp ≠ k → w8.heap[k]? = w5.heap[k]? := fun k hk e => (hgr8.block k (Nat.lt_of_lt_of_le hk (by rw [World.size_alloc]; exact Nat.le_succ _)) (fun e1 => e (by injection e1 with e1; exact e1.symm))).trans (Below.heap_alloc (w5.drewN q) (.cells #[.string ⟨#[97]⟩] 9) k hk)
  refine ⟨g8, c8, w8, hap, fun v y hv => ?_, fun i hi => ?_, fun i hi => ?_, ⟨hgr8.os.trans hbe.os, hgr8.tape.trans hbe.tape, hgr8.output.trans hbe.output, by omega, fun k hk => (hkeep k (by omega) (by omega)).trans (hbe.block k hk)⟩⟩
  · exact Tryz.Tr_keep (fun g h1 hl => hkeep g hl fun e => h1 (by rw [← e]; rfl)) (Nat.le_of_lt hz8) _ _ hv
  · have := hown8.cells (g := g8) rfl i (.string Jv.kA) (by
      by_cases h1 : i < 1 + dp
      · rw [List.getElem?_append_left (by simpa using h1), List.getElem?_replicate, if_pos h1]
      · rw [List.getElem?_append_right (by simp; omega)]
        have : i - (List.replicate (1 + dp) (Value.string Jv.kA)).length = 0 := by simp; omega
        rw [this]; rfl)
    rwa [Addr.add_mid, Nat.zero_add] at this
  · exact hold8 i _ (by rw [List.getElem?_replicate, if_pos hi])
set_option maxRecDepth 100000 in
set_option maxHeartbeats 4000000 in
theorem Tryz.jsonDeepWalk (c : Int) (l : Bool) (hc : -9223372036854775808 ≤ c ∧ c ≤ 9223372036854775807) (w : World) (hT : Tryz.Tb w) :
    Calls Tryz.prog 6 #[.int .i64 c, .bool l] w fun e w' => e = .returned (.bool true) ∧ Below w.heap.size w w' := by
  have ha := Tryz.awake_any w hT
  have hpk := fun W => Tryz.pick_any c hc.1 hc.2 1000 (by omega) (by omega) W
  have hi := pk_lt c 1000 (by omega)
  generalize pk c 1000 = dp at hpk hi
  have HT : Hid (Tryz.Tb w) := hT
  clear hT
  go_enter Tryz.func6, Tryz.ntmps6
  go_wp2_with (first
    | (go_at_call 8; refine ha.mono ?_; clear ha; rintro e1 w1 ⟨rfl, hb1⟩)
    | (go_at_call 18; refine (hpk _).mono ?_; clear hpk; rintro e2 w2 ⟨rfl, rfl⟩; have hof := Tryz.ofInt_any 7 w2)
    | (go_at_call 22; refine hof.mono ?_; clear hof; rintro e3 w3 ⟨rfl, hw3⟩
       have hdw : Tryz.Dw w w3 l 0 w2.heap.size (.slice none 0 0) := by
         rw [hw3]
         refine ⟨?_, World.ownsRow_nil _ _ _ _, hb1.alloc hb1.size _⟩
         show Tryz.Tr _ _ (.int 7) _
         unfold Tryz.Tr
         exact ⟨⟨(fun e => by cases e), by decide, by decide⟩, Jv.Vb.new w2 2 false 7 emp Jv.nilS Jv.nilS _⟩
       have HDW : Hid (Tryz.Dw w w3 l 0 w2.heap.size (.slice none 0 0)) := hdw
       clear hdw hw3 hb1)
    | fail)
  have hmm := @run_makeMap Tryz.prog
  obtain ⟨jm, hjm, hy0, hy1, hy2⟩ := info_parts Tryz.info_strO
  have hp0 : ∀ (l : Bool), (⟨#[55]⟩ : ByteArray) = ⟨(pr (dv l 0)).toArray⟩ := fun l => by rw [pr_dv0]
  go_loopw [7, 8, 9, 10] (fun v s p i wr => ∃ (k x : Nat), i = .int .i64 k ∧ k ≤ 1 + dp ∧ v = .pointer (some ⟨x, 0, none⟩) ∧ s = .string ⟨(pr (dv l k)).toArray⟩ ∧ Tryz.Dw w wr l k x p) (fun _ _ _ i _ => 1 + dp - (intOf i).toNat)
  case atStart => exact ⟨0, w2.heap.size, rfl, by omega, rfl, by rw [hp0 l], HDW.out⟩
  case round =>
    obtain ⟨k, x, rfl, hk, rfl, rfl, hdw⟩ := hrel
    clear HDW hp0
    by_cases hkl : k < 1 + dp
    · have q0 : (k : Int) < 1 + (dp : Int) := by omega
      have hlen := pr_dv_len l k
      have hprd := pr_dv l k
      have HROW : Hid (wr.ownsRow w.heap.size 9 1 u9 k (List.replicate k (.string Jv.kA))) := hdw.row
      have HDW : Hid (Tryz.Dw w wr l k x u9) := hdw
      have hwz := hdw.bel.size
      have hob := Tryz.ofBool_any true
      clear hdw
      cases l with
      | true =>
        have hli := HDW.out.list
        go_wp2_with (first
          | (go_at_call 24; refine (hob _).mono ?_; clear hob; rintro e4 w4 ⟨rfl, rfl⟩)
          | (go_at_call 23; refine hli.mono ?_; clear hli; rintro e5 w5 ⟨y5, rfl, ht5, hb5⟩; have hrow5 := Jv.rowBel HROW.out hb5; have hz5 := hb5.size)
          | (at_builtin; refine wpList_append_lies _ rfl _ _ 23 rfl w.heap.size 9 jm _ 1 16 Tryz.underlying23 hjm hy0 hy1 hy2 rfl (by omega) u9 k (List.replicate k (.string Jv.kA)) (by rfl) (hrow5.alloc _) ⟨w5.heap.size, 0, none⟩ 1 1 [.string Jv.kA] (by rfl) (by rfl) (World.news_of_block (cs := #[.string Jv.kA]) (t := 9) (fr := (0, 0)) (heap_alloc_new w5 _)) (by simp [Value.oneCell']) (by omega) (by unfold maxLen; omega) (by omega) (by simp; omega) (w5.heap.size + 1) (by simp) ?_; intro g6 cp6 w6 hown6 hgrow6 hat6 hlt6)
          | fail)
        exact ⟨⟨k + 1, y5, by go_num, by omega, rfl, congrArg Value.string (Jv.dv_text true k), HDW.out.next hb5 ht5 ⟨hgrow6.os, hgrow6.tape, hgrow6.output, hgrow6.size, hgrow6.block⟩ hown6 hat6⟩, by simp [intOf]; omega⟩
      | false =>
        obtain ⟨W2, W4, hr2, hr4, hma⟩ := HDW.out.map
        go_wp2_with (first
          | (go_at_call 24; refine (hob _).mono ?_; clear hob; rintro e4 w4 ⟨rfl, hw4⟩
             have hr5 : (Instr.mapUpdate 53 (.map (some wr.heap.size)) (.string ⟨#[98]⟩) (.pointer (some ⟨W2.heap.size, 0, none⟩))).run Tryz.prog w4 = .ok () W4 := by rw [hw4]; exact hr4
             clear hw4 hr4)
          | (go_at_call 21; refine hma.mono ?_; clear hma; rintro e5 w5 ⟨y5, rfl, ht5, hb5⟩; have hrow5 := Jv.rowBel HROW.out hb5; have hz5 := hb5.size)
          | (at_builtin; refine wpList_append_lies _ rfl _ _ 23 rfl w.heap.size 9 jm _ 1 16 Tryz.underlying23 hjm hy0 hy1 hy2 rfl (by omega) u9 k (List.replicate k (.string Jv.kA)) (by rfl) (hrow5.alloc _) ⟨w5.heap.size, 0, none⟩ 1 1 [.string Jv.kA] (by rfl) (by rfl) (World.news_of_block (cs := #[.string Jv.kA]) (t := 9) (fr := (0, 0)) (heap_alloc_new w5 _)) (by simp [Value.oneCell']) (by omega) (by unfold maxLen; omega) (by omega) (by simp; omega) (w5.heap.size + 1) (by simp) ?_; intro g6 cp6 w6 hown6 hgrow6 hat6 hlt6)
          | fail)
        exact ⟨⟨k + 1, y5, by go_num, by omega, rfl, congrArg Value.string (Jv.dv_text false k), HDW.out.next hb5 ht5 ⟨hgrow6.os, hgrow6.tape, hgrow6.output, hgrow6.size, hgrow6.block⟩ hown6 hat6⟩, by simp [intOf]; omega⟩
    · have q0 : ¬ (k : Int) < 1 + (dp : Int) := by omega
      obtain rfl : k = 1 + dp := by omega
      have HDW : Hid (Tryz.Dw w wr l (1 + dp) x u9) := hdw
      have htx : Tryz.Tr wr (fun g => u9.ownBlock ≠ some g) (dv l (dp + 1)) x := by rw [Nat.add_comm]; exact hdw.tr
      obtain ⟨kk, kvv, gi, ci, yy, hvb, -, -⟩ := Tryz.dv_items htx
      have hle := Tryz.len_of hvb
      have hplen := pr_dv_len l (1 + dp)
      have hpr := Tryz.print_any (dv l (1 + dp)) wr x (Tryz.Tr_mono (fun _ _ h => h) _ _ hdw.tr) (HT.out.below hdw.bel HT.out.size) (by omega)
      clear hdw hvb hplen htx
      generalize hps : (⟨(pr (dv l (1 + dp))).toArray⟩ : ByteArray) = ps at *
      go_wp2_with (first
        | (go_at_call 25; refine hle.mono ?_; clear hle; rintro e4 w4 ⟨rfl, rfl⟩)
        | (go_at_call 15; refine hpr.mono ?_; clear hpr; rintro e5 w5 ⟨rfl, hb5⟩)
        | fail)
      have htr5 : Tryz.Tr w5 (fun g => u9.ownBlock ≠ some g) (dv l (1 + dp)) x := Tryz.Tr_keep (fun g _ hl => hb5.block g hl) hb5.size _ _ HDW.out.tr
      have hrow5 : w5.ownsRow w.heap.size 9 1 u9 (1 + dp) (List.replicate (1 + dp) (.string Jv.kA)) := Jv.rowBel HDW.out.row hb5
      have hbe5 : Below w.heap.size w w5 := HDW.out.bel.trans (hb5.mono HDW.out.bel.size)
      obtain ⟨gp, cp, rfl, hcpn⟩ : ∃ gp cp, u9 = .slice (some ⟨gp, 0, none⟩) (1 + dp) cp ∧ 1 + dp ≤ cp := by
        rcases hrow5.2 with ⟨_, e⟩ | ⟨g, cap, cur, e, _, _, h9, _⟩
        · omega
        · exact ⟨g, cap, e, h9⟩
      have hcpi : (dp : Int) ≤ (cp : Int) := by omega
      have hdp1 : 1 + (dp : Int) - 1 = (dp : Int) := by omega
      have hcp : ∀ i, i < 1 + dp → w5.cell? ⟨gp, i, none⟩ = some (.string Jv.kA) := fun i hi => by
        have := hrow5.cells (g := gp) rfl i (.string Jv.kA) (by rw [List.getElem?_replicate, if_pos hi])
        rwa [Addr.add_mid, Nat.zero_add] at this
      have happ := fun q => Tryz.deep_app hrow5 hbe5 hi q
      have HTR5 : Hid (Tryz.Tr w5 (fun g => (Value.slice (some ⟨gp, 0, none⟩) (1 + dp) cp).ownBlock ≠ some g) (dv l (1 + dp)) x) := htr5
      have HAPP : Hid _ := happ
      have HCP : Hid (∀ i, i < 1 + dp → w5.cell? ⟨gp, i, none⟩ = some (.string Jv.kA)) := hcp
      clear htr5 happ hcp hrow5 hb5 HDW hps
      go_loopw [12, 13] (fun pv i wq => ∃ (k y q : Nat), pv = .pointer (some ⟨y, 0, none⟩) ∧ i = .int .i64 k ∧ k ≤ 1 + dp ∧ Tryz.Tr w5 (fun g => (Value.slice (some ⟨gp, 0, none⟩) (1 + dp) cp).ownBlock ≠ some g) (dv l (1 + dp - k)) y ∧ wq = w5.drewN q) (fun _ i _ => 1 + dp - (intOf i).toNat)
      case atStart => exact ⟨0, x, 0, rfl, rfl, by omega, HTR5.out, rfl⟩
      case round =>
        obtain ⟨k, y, q, rfl, rfl, hk2, hty, rfl⟩ := hrel
        by_cases hkl2 : k < 1 + dp
        · have q1 : (k : Int) < 1 + (dp : Int) := by omega
          obtain ⟨j, hj⟩ : ∃ j, 1 + dp - k = j + 1 := ⟨dp - k, by omega⟩
          rw [hj] at hty
          obtain ⟨kk2, kv2, gi2, ci2, y2, hvb2, hcy, hty2⟩ := Tryz.dv_items hty
          have hit : Calls Tryz.prog 26 #[.pointer (some ⟨y, 0, none⟩), .int .i64 0] (w5.drewN q) fun e w' => e = .returned (.pointer (some ⟨y2, 0, none⟩)) ∧ ∃ q', w' = (w5.drewN q).drewN q' := Tryz.item_at (w := w5.drewN q) (i := 0) (hvb2.keep rfl (Nat.le_refl _)) (by omega) (by omega) hcy
          have HT2 : Hid (Tryz.Tr w5 (fun g => (Value.slice (some ⟨gp, 0, none⟩) (1 + dp) cp).ownBlock ≠ some g) (dv l j) y2) := hty2
          clear hty hty2 hvb2 hcy
          go_wp2_with (first
            | (go_at_call 26; refine hit.mono ?_; clear hit; rintro e7 w7 ⟨rfl, q7, rfl⟩)
            | fail)
          go_roundw
          case rel => exact ⟨k + 1, y2, q + q7, rfl, by go_num, by omega, by rw [show 1 + dp - (k + 1) = j by omega]; exact HT2.out, rfl⟩
          case measure => simp [intOf]; omega
        · have q1 : ¬ (k : Int) < 1 + (dp : Int) := by omega
          have h0 : 1 + dp - k = 0 := by omega
          rw [h0] at hty
          have hvy : Jv.Vb (w5.drewN q) y 2 false 7 emp Jv.nilS Jv.nilS := by
            have h7 : Tryz.Tr w5 (fun g => (Value.slice (some ⟨gp, 0, none⟩) (1 + dp) cp).ownBlock ≠ some g) (.int 7) y := hty
            unfold Tryz.Tr at h7
            exact h7.2.keep rfl (Nat.le_refl _)
          have hnum := Tryz.num_of hvy
          have hlk1 := Tryz.dv_look (Tryz.Tr_keep (w := w5) (w' := w5.drewN q) (fun g _ _ => rfl) (Nat.le_refl _) _ _ HTR5.out) (1 + dp) gp cp (by omega) (fun i hi => HCP.out i hi)
          clear hty hvy h0
          cases l with
          | true =>
            rw [Nat.add_comm 1 dp, look_dl, Nat.add_comm dp 1] at hlk1
            have hl1 : Calls Tryz.prog 28 #[.pointer (some ⟨x, 0, none⟩), .slice (some ⟨gp, 0, none⟩) (1 + dp) cp] (w5.drewN q) fun e w' => e = .returned (.pointer none) ∧ ∃ q', w' = w5.drewN q' := hlk1.mono fun e w' ⟨⟨q', h1⟩, h2⟩ => by
              rcases h2 with h2 | ⟨_, _, h2, _⟩
              · exact ⟨h2.2, q + q', by rw [h1]; simp [World.drewN, Nat.add_assoc]⟩
              · cases h2
            clear hlk1
            go_wp2_with (first
              | (go_at_call 27; refine hnum.mono ?_; clear hnum; rintro e7 w7 ⟨rfl, rfl⟩)
              | (go_at_call 28; refine hl1.mono ?_; clear hl1; rintro e8 w8 ⟨rfl, q8, rfl⟩; obtain ⟨g9, c9, w9, hap, hkp9, hc9, hd9, hb9⟩ := HAPP.out q8
                 have ht9 := hkp9 _ _ HTR5.out
                 have hlk2 := Tryz.dv_look ht9 (1 + dp + 1) g9 c9 (by omega) hc9
                 rw [look_dl] at hlk2
                 have hl2 : Calls Tryz.prog 28 #[.pointer (some ⟨x, 0, none⟩), .slice (some ⟨g9, 0, none⟩) (1 + dp + 1) c9] w9 fun e w' => e = .returned (.pointer none) ∧ ∃ q', w' = w9.drewN q' := hlk2.mono fun e w' ⟨h1, h2⟩ => by
                   rcases h2 with h2 | ⟨_, _, h2, _⟩
                   · exact ⟨h2.2, h1⟩
                   · cases h2
                 have hl3 : ∀ q9, Calls Tryz.prog 28 #[.pointer (some ⟨x, 0, none⟩), .slice (some ⟨gp, 0, none⟩) dp cp] (w9.drewN q9) fun e w' => (∃ pv, e = .returned (.pointer pv)) ∧ ∃ q', w' = (w9.drewN q9).drewN q' := fun q9 => (Tryz.dv_look (Tryz.Tr_keep (w := w9) (w' := w9.drewN q9) (fun g _ _ => rfl) (Nat.le_refl _) _ _ ht9) dp gp cp (by omega) (fun i hi => hd9 i (by omega))).mono fun e w' ⟨h1, h2⟩ => by
                   rcases h2 with h2 | ⟨_, y2, _, h2, _⟩
                   · exact ⟨⟨none, h2.2⟩, h1⟩
                   · exact ⟨⟨_, h2⟩, h1⟩
                 have HB9 : Hid (Below w.heap.size w w9) := hb9
                 clear ht9 hc9 hd9 hb9 hlk2 hkp9)
              | (at_builtin; refine Jv.wpList_app rfl _ _ 23 rfl rfl rfl hap ?_)
              | (go_at_call 28; refine hl2.mono ?_; clear hl2; rintro ea wa ⟨rfl, qa, rfl⟩)
              | (go_at_call 28; refine (hl3 _).mono ?_; clear hl3; rintro eb wb ⟨⟨pv, rfl⟩, qb, rfl⟩)
              | fail)
            go_ret
            exact ⟨rfl, below_drewN HB9.out _⟩
          | false =>
            rw [look_dv, if_pos (Nat.le_refl _), Nat.sub_self] at hlk1
            have hl1 : Calls Tryz.prog 28 #[.pointer (some ⟨x, 0, none⟩), .slice (some ⟨gp, 0, none⟩) (1 + dp) cp] (w5.drewN q) fun e w' => ∃ y8, e = .returned (.pointer (some ⟨y8, 0, none⟩)) ∧ Tryz.Tr w5 (fun g => (Value.slice (some ⟨gp, 0, none⟩) (1 + dp) cp).ownBlock ≠ some g) (.int 7) y8 ∧ ∃ q', w' = w5.drewN q' := hlk1.mono fun e w' ⟨⟨q', h1⟩, h2⟩ => by
              rcases h2 with h2 | ⟨u, y8, h2, h3, h4⟩
              · cases h2.1
              · injection h2 with h2
                subst h2
                exact ⟨y8, h3, Tryz.Tr_keep (w := w5.drewN q) (w' := w5) (fun g _ _ => rfl) (Nat.le_refl _) _ _ h4, q + q', by rw [h1]; simp [World.drewN, Nat.add_assoc]⟩
            clear hlk1
            go_wp2_with (first
              | (go_at_call 27; refine hnum.mono ?_; clear hnum; rintro e7 w7 ⟨rfl, rfl⟩)
              | (go_at_call 28; refine hl1.mono ?_; clear hl1; rintro e8 w8 ⟨y8, rfl, hty8, q8, rfl⟩; obtain ⟨g9, c9, w9, hap, hkp9, hc9, hd9, hb9⟩ := HAPP.out q8
                 have ht9 := hkp9 _ _ HTR5.out
                 have ht8 := hkp9 _ _ hty8
                 have hlk2 := Tryz.dv_look ht9 (1 + dp + 1) g9 c9 (by omega) hc9
                 rw [look_dv, if_neg (by omega)] at hlk2
                 have hl2 : Calls Tryz.prog 28 #[.pointer (some ⟨x, 0, none⟩), .slice (some ⟨g9, 0, none⟩) (1 + dp + 1) c9] w9 fun e w' => e = .returned (.pointer none) ∧ ∃ q', w' = w9.drewN q' := hlk2.mono fun e w' ⟨h1, h2⟩ => by
                   rcases h2 with h2 | ⟨_, _, h2, _⟩
                   · exact ⟨h2.2, h1⟩
                   · cases h2
                 have hl3 : ∀ q9, Calls Tryz.prog 28 #[.pointer (some ⟨x, 0, none⟩), .slice (some ⟨gp, 0, none⟩) dp cp] (w9.drewN q9) fun e w' => ∃ yb, e = .returned (.pointer (some ⟨yb, 0, none⟩)) ∧ Tryz.Tr w9 (fun g => (Value.slice (some ⟨gp, 0, none⟩) (1 + dp) cp).ownBlock ≠ some g) (dv false (0 + 1)) yb ∧ ∃ q', w' = w9.drewN q' := fun q9 => by
                   have h := Tryz.dv_look (Tryz.Tr_keep (w := w9) (w' := w9.drewN q9) (fun g _ _ => rfl) (Nat.le_refl _) _ _ ht9) dp gp cp (by omega) (fun i hi => hd9 i (by omega))
                   rw [look_dv, if_pos (by omega), show 1 + dp - dp = 0 + 1 by omega] at h
                   refine h.mono fun e w' ⟨⟨q', h1⟩, h2⟩ => ?_
                   rcases h2 with h2 | ⟨u, yb, h2, h3, h4⟩
                   · cases h2.1
                   · injection h2 with h2
                     subst h2
                     exact ⟨yb, h3, Tryz.Tr_keep (w := w9.drewN q9) (w' := w9) (fun g _ _ => rfl) (Nat.le_refl _) _ _ h4, q9 + q', by rw [h1]; simp [World.drewN, Nat.add_assoc]⟩
                 have hn8 : ∀ q', Calls Tryz.prog 27 #[.pointer (some ⟨y8, 0, none⟩)] (w9.drewN q') fun e w' => e = .returned (.int .i64 7) ∧ w' = w9.drewN q' := fun q' => by
                   unfold Tryz.Tr at ht8
                   exact Tryz.num_of (ht8.2.keep rfl (Nat.le_refl _))
                 have HB9 : Hid (Below w.heap.size w w9) := hb9
                 clear ht9 ht8 hty8 hc9 hd9 hb9 hlk2 hkp9)
              | (at_builtin; refine Jv.wpList_app rfl _ _ 23 rfl rfl rfl hap ?_)
              | (go_at_call 28; refine hl2.mono ?_; clear hl2; rintro ea wa ⟨rfl, qa, rfl⟩)
              | (go_at_call 28; refine (hl3 _).mono ?_; clear hl3; rintro eb wb ⟨yb, rfl, htb, qb, rfl⟩; obtain ⟨kb, kvb, gb, cb, _, hvbb, _, _⟩ := Tryz.dv_items htb; have hlb := Tryz.len_of (hvbb.keep (w' := w9.drewN qb) rfl (Nat.le_refl _)); clear htb hvbb)
              | (go_at_call 27; refine (hn8 _).mono ?_; clear hn8; rintro ec wc ⟨rfl, rfl⟩)
              | (go_at_call 25; refine hlb.mono ?_; clear hlb; rintro ed wd ⟨rfl, rfl⟩)
              | fail)
            go_ret
            exact ⟨rfl, below_drewN HB9.out _⟩
end Go.Proofs
