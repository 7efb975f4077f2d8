/-
  OfMap: its closure, its sort, a map's keys as they come, the object as it grows.
-/
import Derived.Test.YtoibnhknkhefjaaGreatDoorShelf3
import Derived.Test.YtoibnhknkhefjaaGreatDoorJw
import Derived.Lib.Bytealg
import Derived.Deep.RegionHeld3
import Derived.Maps.RangeWalk
import Derived.Maps.OwnSet
import Derived.Sort.MapsRangeIn
import Derived.Deep.AppendLies
namespace Go.Proofs
open Go.RowKit Go.Jv Go.Sort
set_option maxHeartbeats 1000000 in
set_option maxRecDepth 20000 in
theorem Tryz.or_any (a b : Int) (w : World) (g : Nat) (h0 : w.cell? ⟨g, 0, none⟩ = some (.int .i64 a)) (h1 : w.cell? ⟨g, 1, none⟩ = some (.int .i64 b)) :
    Calls Tryz.prog 40 #[.slice (some ⟨g, 0, none⟩) 2 2] w fun e w' => e = .returned (.int .i64 (if a = 0 then b else a)) ∧ ∃ q, w' = w.drewN q := by
  go_enter Tryz.func40, Tryz.ntmps40
  go_wp2
  go_loopw [8] (fun i wr => ∃ k : Nat, i = .int .i64 k ∧ k ≤ 2 ∧ (1 ≤ k → a = 0) ∧ (2 ≤ k → b = 0) ∧ wr = w) (fun i _ => 2 - (intOf i).toNat)
  case atStart => exact ⟨0, rfl, by omega, by omega, by omega, rfl⟩
  case round =>
    obtain ⟨k, rfl, hk, ha, hb, rfl⟩ := hrel
    rcases (show k = 0 ∨ k = 1 ∨ k = 2 by omega) with rfl | rfl | rfl
    · by_cases hz : a = 0
      · go_wp2
        go_roundw
        case rel => exact ⟨1, by go_num, by omega, fun _ => hz, by omega, trivial⟩
        case measure => simp [intOf]
      · go_wp2
        go_ret
        exact ⟨rfl, 0, rfl⟩
    · obtain rfl := ha (by omega)
      by_cases hz : b = 0
      · go_wp2
        go_roundw
        case rel => exact ⟨2, by go_num, by omega, fun _ => trivial, fun _ => hz, trivial⟩
        case measure => simp [intOf]
      · go_wp2
        go_ret
        exact ⟨rfl, 0, rfl⟩
    · obtain rfl := ha (by omega)
      obtain rfl := hb (by omega)
      go_wp2
      go_ret
      exact ⟨rfl, 0, rfl⟩
theorem Jv.cb_neg : ∀ a b : List UInt8, Lib.compareBytes b a = - Lib.compareBytes a b
  | [], [] => rfl
  | [], _ :: _ => rfl
  | _ :: _, [] => rfl
  | a :: a1, b :: b1 => by
    simp only [Lib.compareBytes]
    by_cases h1 : a < b
    · have h2 : ¬ b < a := by simp only [UInt8.lt_iff_toNat_lt] at *; omega
      simp [h1, h2]
    · by_cases h2 : b < a
      · simp [h1, h2]
      · simp [h1, h2, Jv.cb_neg a1 b1]
theorem Jv.cb_eq : ∀ {a b : List UInt8}, Lib.compareBytes a b = 0 → a = b
  | [], [], _ => rfl
  | [], _ :: _, h => by simp [Lib.compareBytes] at h
  | _ :: _, [], h => by simp [Lib.compareBytes] at h
  | a :: a1, b :: b1, h => by
    simp only [Lib.compareBytes] at h
    by_cases h1 : a < b
    · simp [h1] at h
    · by_cases h2 : b < a
      · simp [h1, h2] at h
      · simp only [h1, h2, if_false] at h
        have h3 : a = b := by
          apply UInt8.toNat_inj.1
          simp only [UInt8.lt_iff_toNat_lt] at *
          omega
        rw [h3, Jv.cb_eq h]
theorem Jv.cb_self : ∀ a : List UInt8, Lib.compareBytes a a = 0
  | [] => rfl
  | a :: a1 => by
    have h : ¬ a < a := by simp only [UInt8.lt_iff_toNat_lt]; omega
    simp [Lib.compareBytes, h, Jv.cb_self a1]
theorem Jv.cb_trans : ∀ {a b c : List UInt8}, Lib.compareBytes a b < 0 → Lib.compareBytes b c < 0 → Lib.compareBytes a c < 0
  | [], [], _, h, _ => by simp [Lib.compareBytes] at h
  | _ :: _, [], _, h, _ => by simp [Lib.compareBytes] at h
  | [], _ :: _, [], _, h => by simp [Lib.compareBytes] at h
  | _ :: _, _ :: _, [], _, h => by simp [Lib.compareBytes] at h
  | [], _ :: _, _ :: _, _, _ => by simp [Lib.compareBytes]
  | a :: a1, b :: b1, c :: c1s, h1, h2 => by
    simp only [Lib.compareBytes] at h1 h2 ⊢
    by_cases k1 : a < b
    · by_cases k2 : b < c
      · have : a < c := by simp only [UInt8.lt_iff_toNat_lt] at *; omega
        simp [this]
      · simp only [k2, if_false] at h2
        by_cases k3 : c < b
        · simp [k3] at h2
        · have : a < c := by simp only [UInt8.lt_iff_toNat_lt] at *; omega
          simp [this]
    · simp only [k1, if_false] at h1
      by_cases k4 : b < a
      · simp [k4] at h1
      · simp only [k4, if_false] at h1
        by_cases k2 : b < c
        · have : a < c := by simp only [UInt8.lt_iff_toNat_lt] at *; omega
          simp [this]
        · simp only [k2, if_false] at h2
          by_cases k3 : c < b
          · simp [k3] at h2
          · simp only [k3, if_false] at h2
            have e1 : ¬ a < c := by simp only [UInt8.lt_iff_toNat_lt] at *; omega
            have e2 : ¬ c < a := by simp only [UInt8.lt_iff_toNat_lt] at *; omega
            simp only [e1, e2, if_false]
            exact Jv.cb_trans h1 h2
/-- A member: its key, and the key a1 it was given. -/
def Jv.memE (x : ByteArray × ByteArray) : List Value := [.string x.1, .string x.2]
def Jv.memC (x y : ByteArray × ByteArray) : Int := if Lib.compareBytes x.1.data.toList y.1.data.toList = 0 then Lib.compareBytes x.2.data.toList y.2.data.toList else Lib.compareBytes x.1.data.toList y.1.data.toList
theorem Jv.ba_eq {a b : ByteArray} (h : Lib.compareBytes a.data.toList b.data.toList = 0) : a = b := by
  have := Jv.cb_eq h
  cases a; cases b
  simp at this
  rw [this]
theorem Jv.memC_neg (x y : ByteArray × ByteArray) : Jv.memC y x = - Jv.memC x y := by
  unfold Jv.memC
  rw [Jv.cb_neg x.1.data.toList y.1.data.toList, Jv.cb_neg x.2.data.toList y.2.data.toList]
  by_cases h : Lib.compareBytes x.1.data.toList y.1.data.toList = 0
  · rw [if_pos h, if_pos (by omega)]
  · rw [if_neg h, if_neg (by omega)]
theorem Jv.memC_eq {x y : ByteArray × ByteArray} (h : Jv.memC x y = 0) : x = y := by
  unfold Jv.memC at h
  split at h
  · rename_i h1
    exact Prod.ext (Jv.ba_eq h1) (Jv.ba_eq h)
  · rename_i h1
    exact absurd h h1
theorem Jv.memC_trans {x y z : ByteArray × ByteArray} (h1 : Jv.memC x y < 0) (h2 : Jv.memC y z < 0) : Jv.memC x z < 0 := by
  unfold Jv.memC at *
  by_cases k1 : Lib.compareBytes x.1.data.toList y.1.data.toList = 0
  · rw [if_pos k1] at h1
    rw [Jv.ba_eq k1]
    by_cases k2 : Lib.compareBytes y.1.data.toList z.1.data.toList = 0
    · rw [if_pos k2] at h2 ⊢
      exact Jv.cb_trans h1 h2
    · rw [if_neg k2] at h2 ⊢
      exact h2
  · rw [if_neg k1] at h1
    by_cases k2 : Lib.compareBytes y.1.data.toList z.1.data.toList = 0
    · rw [← Jv.ba_eq k2, if_neg k1]
      exact h1
    · rw [if_neg k2] at h2
      have := Jv.cb_trans h1 h2
      rw [if_neg (by omega)]
      exact this
theorem Jv.memC_swo : SWO (Go.Proofs.ltOf Jv.memC) where
  irrefl x := by unfold ltOf; have := Jv.memC_neg x x; simp; omega
  trans x y z h1 h2 := by
    unfold ltOf at *
    simp only [decide_eq_true_eq] at *
    exact Jv.memC_trans h1 h2
  ntrans x y z h1 h2 := by
    unfold ltOf at *
    simp only [decide_eq_false_iff_not] at *
    intro h3
    have e1 := Jv.memC_neg x y
    have e2 := Jv.memC_neg y z
    by_cases k1 : Jv.memC x y = 0
    · rw [Jv.memC_eq k1] at h3; exact h2 h3
    · by_cases k2 : Jv.memC y z = 0
      · rw [← Jv.memC_eq k2] at h3; exact h1 h3
      · have := Jv.memC_trans (x := z) (y := y) (z := x) (by omega) (by omega)
        have := Jv.memC_neg x z
        omega
theorem Tryz.str_cmp (a b : ByteArray) (w : World) : Calls Tryz.prog 41 #[.string a, .string b] w fun e w' => e = .returned (.int .i64 (Lib.compareBytes a.data.toList b.data.toList)) ∧ w' = w := Any.strings_Compare Tryz.laysCmp a b w
set_option maxHeartbeats 1000000 in
set_option maxRecDepth 20000 in
theorem Tryz.memCmp_any (x y : ByteArray × ByteArray) (w : World) :
    Calls Tryz.prog 39 #[.agg #[.string x.1, .string x.2], .agg #[.string y.1, .string y.2]] w fun e w' => e = .returned (.int .i64 (Jv.memC x y)) ∧ ∃ q os', w' = grow (w.drewN q) os' := by
  unfold Jv.memC
  have h1 := fun W => Tryz.str_cmp x.1 y.1 W
  have h2 := fun W => Tryz.str_cmp x.2 y.2 W
  generalize Lib.compareBytes x.1.data.toList y.1.data.toList = c1 at *
  generalize Lib.compareBytes x.2.data.toList y.2.data.toList = c2 at *
  go_enter Tryz.func39, Tryz.ntmps39
  have h3 := fun W g => Tryz.or_any c1 c2 W g
  generalize (if c1 = 0 then c2 else c1) = r at *
  obtain ⟨W0, hW0⟩ : ∃ W0, W0 = (w.alloc (.cells #[.string x.1, .string x.2] 85)).alloc (.cells #[.string y.1, .string y.2] 85) := ⟨_, rfl⟩
  have d0 : W0.cell? ⟨w.heap.size, 0, none⟩ = some (.string x.1) := by rw [hW0]; simp [go_sem]
  have d1 : W0.cell? ⟨w.heap.size, 1, none⟩ = some (.string x.2) := by rw [hW0]; simp [go_sem]
  have d2 : W0.cell? ⟨w.heap.size + 1, 0, none⟩ = some (.string y.1) := by rw [hW0]; simp [go_sem]
  have d3 : W0.cell? ⟨w.heap.size + 1, 1, none⟩ = some (.string y.2) := by rw [hW0]; simp [go_sem]
  have hg : W0 = grow w #[(.cells #[.string x.1, .string x.2] 85), (.cells #[.string y.1, .string y.2] 85)] := by rw [hW0, alloc_eq_grow, alloc_eq_grow, grow_grow]; rfl
  have HG : Hid _ := hg
  clear hg
  go_wp2
  rw [← hW0]
  clear hW0
  go_region_held3 (fun W => W.cell? ⟨w.heap.size, 0, none⟩ = some (.string x.1) ∧ W.cell? ⟨w.heap.size, 1, none⟩ = some (.string x.2) ∧ W.cell? ⟨w.heap.size + 1, 0, none⟩ = some (.string y.1) ∧ W.cell? ⟨w.heap.size + 1, 1, none⟩ = some (.string y.2)) (first | exact ⟨d0, d1, d2, d3⟩ | go_keep) (first
    | (go_at_call 41; refine (h1 _).mono ?_; rintro e w1 ⟨rfl, rfl⟩)
    | (go_at_call 41; refine (h2 _).mono ?_; rintro e w1 ⟨rfl, rfl⟩)
    | (go_at_call 40; refine (h3 _ _ (by simp [go_sem]) (by simp [go_sem])).mono ?_; rintro e w1 ⟨rfl, q, rfl⟩)
    | fail)
  all_goals
    go_wp2
    go_ret
    refine ⟨rfl, 1 + q, #[(.cells #[.string x.1, .string x.2] 85), (.cells #[.string y.1, .string y.2] 85), .cells #[.int .i64 c1, .int .i64 c2] 3], ?_⟩
    rw [HG.out, alloc_eq_grow, grow_grow]
    rfl
end Go.Proofs
namespace Go.Proofs
open Go.RowKit Go.Jv Go.Sort
def Jv.mems (l : List (ByteArray × ByteArray)) : List Value := l.flatMap Jv.memE
theorem Jv.mems_len (l : List (ByteArray × ByteArray)) : (Jv.mems l).length = l.length * 2 := by
  induction l with
  | nil => rfl
  | cons x r ih => simp only [Jv.mems, List.flatMap_cons, List.length_append, List.length_cons] at *; simp only [Jv.memE, List.length_cons, List.length_nil]; omega
theorem Jv.mems_get : ∀ (l : List (ByteArray × ByteArray)) (t : Nat), t < l.length * 2 → (Jv.mems l)[t]? = some ((Jv.memE (l.toArray[t / 2]!))[t % 2]!)
  | [], t, h => by simp at h
  | x :: r, 0, _ => by simp [Jv.mems, Jv.memE]
  | x :: r, 1, _ => by simp [Jv.mems, Jv.memE]
  | x :: r, t + 2, h => by
    have ih := Jv.mems_get r t (by simp at h; omega)
    have h1 : (Jv.mems (x :: r))[t + 2]? = (Jv.mems r)[t]? := by simp [Jv.mems, Jv.memE]
    rw [h1, ih, show (t + 2) / 2 = t / 2 + 1 by omega, show (t + 2) % 2 = t % 2 by omega]
    simp
theorem Jv.flat_mems (l : List (ByteArray × ByteArray)) : (flatK Jv.memE 2 l.toArray).toList = Jv.mems l := by
  apply List.ext_getElem?
  intro t
  by_cases h : t < l.length * 2
  · rw [Jv.mems_get l t h, Array.getElem?_toList]
    rw [Array.getElem?_eq_getElem (by simp [h])]
    rw [← getElem!_pos (flatK Jv.memE 2 l.toArray) t (by simp [h]), get_flatK _ _ _ _ (by simpa using h)]
  · rw [List.getElem?_eq_none (by simp; omega), List.getElem?_eq_none (by rw [Jv.mems_len]; omega)]
theorem Jv.holds_mems {w : World} {g : Nat} {cur : Array Value} {e : TypeId} {l : List (ByteArray × ByteArray)} (hb : w.heap[g]? = some (.cells cur e (0, 0))) (ht : cur.toList.take (l.length * 2) = Jv.mems l) : HoldsK Jv.memE 2 w g 0 l.toArray := by
  intro j hj
  have hj' : j < l.length * 2 := by simpa using hj
  refine ⟨?_, by simp [World.frozen?, hb]⟩
  have h1 : (cur.toList.take (l.length * 2))[j]? = (Jv.mems l)[j]? := by rw [ht]
  rw [List.getElem?_take_of_lt hj', Jv.mems_get l j hj'] at h1
  simp only [World.cell?, hb, Nat.zero_add]
  simp only [Option.isSome_none, Bool.false_eq_true, if_false]
  rw [← Array.getElem?_toList, h1, get_flatK _ _ _ _ (by simpa using hj')]
  rfl
theorem Jv.take_put (cur F : Array Value) (h : F.size ≤ cur.size) : (putCells id 0 F cur).toList.take F.size = F.toList := by
  apply List.ext_getElem?
  intro j
  by_cases hj : j < F.size
  · rw [List.getElem?_take_of_lt hj, Array.getElem?_toList]
    simp [putCells, hj, show j < cur.size by omega]
  · rw [List.getElem?_take_eq_none (by omega), List.getElem?_eq_none (by simp; omega)]
theorem Tryz.sortM_any (blk cap : Nat) (d : Array (ByteArray × ByteArray)) (w : World) (hH : HoldsK Jv.memE 2 w blk 0 d) (hblk : blk < w.heap.size) (hsz : d.size < 4611686018427387904) :
    Calls Tryz.prog 38 #[.slice (some ⟨blk, 0, none⟩) d.size cap, .func (.func 39) #[] #[]] w fun e w' => e = .returned (.tuple #[]) ∧ ∃ d' n os, PermIn 0 d.size d d' ∧ SortedIn (ltOf Jv.memC) 0 d.size d' ∧ w' = sortWorldK Jv.memE 2 w blk 0 n d' os := by
  have eg : ∀ args w, (callFunc 39 args).run Tryz.prog w = .ok (.enter 39 args) w := enters_of Tryz.func39 (by kernel_rfl) rfl
  exact AnyQ.slices_SortFunc Tryz.sortM 2 Tryz.isAgg85 Tryz.sizeOf85 Jv.memE (fun _ => rfl) (fun x v hv => by simp [Jv.memE] at hv; rcases hv with rfl | rfl <;> rfl) Jv.memC Jv.memC_swo 39 #[] blk 0 cap d w eg (fun _ _ _ _ x y => Tryz.memCmp_any x y _) hH hblk hsz
theorem Tryz.sortM_row {w : World} {B : Nat} {v : Value} {l : List (ByteArray × ByteArray)} (h : w.ownsRow B 85 2 v l.length (Jv.mems l)) (h0 : 0 < l.length) (hs : l.length < 4611686018427387904) :
    Calls Tryz.prog 38 #[v, .func (.func 39) #[] #[]] w fun e w' => e = .returned (.tuple #[]) ∧ ∃ l', l'.Perm l ∧ l'.Pairwise (fun x y => ¬ Jv.memC y x < 0) ∧ w'.ownsRow B 85 2 v l.length (Jv.mems l') ∧ w.grownBy w' v.ownBlock := by
  rcases h.2 with ⟨_, e2⟩ | ⟨g, cap, cur, rfl, hB, hb, h1, h2, h3, h4⟩
  · omega
  · have hg : g < w.heap.size := (Array.getElem?_eq_some_iff.1 hb).1
    have hc := Tryz.sortM_any g cap l.toArray w (Jv.holds_mems hb h4) hg (by simpa using hs)
    rw [show l.toArray.size = l.length by simp] at hc
    refine hc.mono ?_
    rintro e w' ⟨rfl, d', n, os, hp, hso, rfl⟩
    obtain ⟨p1, p2, p3⟩ := hp
    have hds : d'.size = l.length := by simpa using p1
    have hbk : (sortWorldK Jv.memE 2 w g 0 n d' os).heap[g]? = some (.cells (putCells id 0 (flatK Jv.memE 2 d') cur) 85 (0, 0)) := by
      unfold sortWorldK putRowK
      rw [heap_grow_old _ _ (by simpa using hg)]
      simp [putRow, mapBlock, Sort.ahead, Array.getElem?_modify, hb, onCells]
    refine ⟨rfl, d'.toList, ?_, ?_, ?_, ?_⟩
    · have : (d'.extract 0 l.length).toList = d'.toList := by rw [← hds]; simp
      rw [this] at p3
      simpa using p3
    · rw [List.pairwise_iff_getElem]
      intro i j hi hj hij
      have := hso i j (Nat.zero_le _) hij (by simpa [hds] using hj)
      rw [getElem!_pos d' j (by simpa using hj), getElem!_pos d' i (by simpa using hi)] at this
      simpa [ltOf] using this
    · refine ⟨by rw [Jv.mems_len]; simp [hds], .inr ⟨g, cap, _, rfl, hB, hbk, h1, h2, by simp [putCells, h3], ?_⟩⟩
      have hsz : (flatK Jv.memE 2 d').size = l.length * 2 := by simp [hds]
      rw [← hsz, Jv.take_put _ _ (by rw [hsz, h3]; omega)]
      have := Jv.flat_mems d'.toList
      simpa using this
    · refine ⟨rfl, rfl, rfl, by unfold sortWorldK putRowK; simp, fun k hk hne => ?_⟩
      unfold sortWorldK putRowK
      rw [heap_grow_old _ _ (by simpa using hk)]
      have : g ≠ k := fun e => hne (by rw [e]; rfl)
      simp [putRow, mapBlock, Sort.ahead, Array.getElem?_modify, this]
end Go.Proofs
namespace Go.Proofs
open Go.RowKit Go.Jv Go.Sort Go.Maps
/-- How a pointer to a value reads, as an element of a map. -/
def Jv.ptrR : Value → Option (DataW Unit × List MemPlace)
  | .pointer none => some (.nil, [])
  | .pointer (some ⟨x, 0, none⟩) => some (.lit (.int .i64 x), [])
  | _ => none
def Jv.ptrV : Option Nat → Value
  | none => .pointer none
  | some x => .pointer (some ⟨x, 0, none⟩)
def Jv.ptrD : Option Nat → DataW Unit
  | none => .nil
  | some x => .lit (.int .i64 x)
theorem Jv.ptrR_mk (o : Option Nat) : Jv.ptrR (Jv.ptrV o) = some (Jv.ptrD o, []) := by cases o <;> rfl
theorem Jv.ptrR_inv {v : Value} {y : DataW Unit × List MemPlace} (h : Jv.ptrR v = some y) : ∃ o, v = Jv.ptrV o ∧ y = (Jv.ptrD o, []) := by
  unfold Jv.ptrR at h
  split at h
  · cases h; exact ⟨none, rfl, rfl⟩
  · rename_i x; cases h; exact ⟨some x, rfl, rfl⟩
  · cases h
theorem Jv.ptrD_inj {a b : Option Nat} (h : Jv.ptrD a = Jv.ptrD b) : a = b := by
  cases a <;> cases b <;> simp_all [Jv.ptrD]
  exact Int.ofNat_inj.1 h
theorem Tryz.strK : Keyed Tryz.prog 9 := string_keyed Tryz.underlying9
theorem Tryz.info_mem : (Tryz.prog.info? 85).map (fun i => (i.zero, i.size, i.bytes)) = some (some (.agg #[.string ⟨#[]⟩, .string ⟨#[]⟩]), 2, 32) := by kernel_rfl
theorem Tryz.info_strO : (Tryz.prog.info? 9).map (fun i => (i.zero, i.size, i.bytes)) = some (some (.string ⟨#[]⟩), 1, 16) := by kernel_rfl
theorem Tryz.info_ptrO : (Tryz.prog.info? 29).map (fun i => (i.zero, i.size, i.bytes)) = some (some (.pointer none), 1, 8) := by kernel_rfl
def Jv.kl (s : ByteArray) : Lit := .string s.data.toList
theorem Jv.kl_same (a b : ByteArray) : (Jv.kl a).sameKey (Jv.kl b) = decide (a = b) := by
  have h : (a = b) ↔ a.data.toList = b.data.toList := by
    constructor
    · rintro rfl; rfl
    · intro h; cases a; cases b; simp at h; rw [h]
  simp only [Jv.kl, Lit.sameKey, h]
  by_cases e : a.data.toList = b.data.toList
  · simp [e]
  · simp only [e, decide_false]
    exact beq_false_of_ne e
theorem Tryz.key_kl {x : ByteArray} {l : Lit} (h : keyOf Tryz.prog 9 (.string x) = some l) : l = Jv.kl x ∧ x.size ≤ maxLen := by
  simp only [keyOf, Tryz.underlying9, mapKey] at h
  split at h
  · rename_i h1
    injection h with h
    exact ⟨h.symm, h1⟩
  · cases h
theorem Jv.row_lo {w : World} {B : Nat} {e : TypeId} {z : Nat} {v : Value} {n : Nat} {xs : List Value} (h : w.ownsRow B e z v n xs) : ∀ k, v.ownBlock = some k → B ≤ k ∧ k < w.heap.size := by
  intro k hk
  rcases h.2 with ⟨rfl, _⟩ | ⟨g, cap, cur, rfl, h2, h3, _⟩
  · cases hk
  · simp [Value.ownBlock] at hk; subst hk; exact ⟨h2, (Array.getElem?_eq_some_iff.1 h3).1⟩
theorem Jv.row_heapZ {w w' : World} {B : Nat} {e : TypeId} {z : Nat} {v : Value} {n : Nat} {xs : List Value} (h : w.ownsRow B e z v n xs) (hk : ∀ k, v.ownBlock = some k → w'.heap[k]? = w.heap[k]?) : w'.ownsRow B e z v n xs := by
  refine ⟨h.1, ?_⟩
  rcases h.2 with h1 | ⟨g, cap, cur, h1, h2, h3, h4⟩
  · exact .inl h1
  · exact .inr ⟨g, cap, cur, h1, h2, (hk g (by rw [h1]; rfl)).trans h3, h4⟩
theorem Jv.row_grown {w w' : World} {B : Nat} {e : TypeId} {z : Nat} {v : Value} {n : Nat} {xs : List Value} {r : Nat} (h : w.ownsRow B e z v n xs) (hg : w.grownBy w' (some r)) (hr : ∀ k, v.ownBlock = some k → k ≠ r) : w'.ownsRow B e z v n xs :=
  Jv.row_heapZ h fun k hk => hg.block k (Jv.row_lo h k hk).2 (fun e => hr k hk (by injection e))
theorem Jv.rowBel {w w' : World} {B : Nat} {e : TypeId} {z : Nat} {v : Value} {n : Nat} {xs : List Value} (h : w.ownsRow B e z v n xs) (hb : Below w.heap.size w w') : w'.ownsRow B e z v n xs :=
  Jv.row_heapZ h fun k hk => hb.block k (Jv.row_lo h k hk).2
/-- What has come of a map's keys. -/
structure Jv.Came (ks : List ByteArray) (D : DataW Unit) (left : Lit → Bool) (l : List ByteArray) : Prop where
  nd : l.Nodup
  sub : ∀ s ∈ l, s ∈ ks ∧ left (Jv.kl s) = false
  all : ∀ s ∈ ks, left (Jv.kl s) = true ∨ s ∈ l
  has : ∀ k, left k = true → Maps.has D k = true
theorem Jv.Came.len {ks : List ByteArray} {D : DataW Unit} {left : Lit → Bool} {l : List ByteArray} (h : Jv.Came ks D left l) : l.length ≤ ks.length :=
  List.Nodup.length_le_of_subset h.nd fun s e => (h.sub s e).1
theorem Jv.Came.next {ks : List ByteArray} {D : DataW Unit} {left : Lit → Bool} {l : List ByteArray} (h : Jv.Came ks D left l) {x : ByteArray} (hx : x ∈ ks) (hl : left (Jv.kl x) = true) : Jv.Came ks D (fun z => left z && !z.sameKey (Jv.kl x)) (l ++ [x]) := by
  have hxl : x ∉ l := fun e => by have := (h.sub x e).2; rw [hl] at this; cases this
  refine ⟨?_, fun s e => ?_, fun s e => ?_, fun k e => ?_⟩
  · rw [List.nodup_append]
    exact ⟨h.nd, by simp, fun a ha b hb => by simp at hb; rintro rfl; exact hxl (hb ▸ ha)⟩
  · rcases List.mem_append.1 e with e | e
    · exact ⟨(h.sub s e).1, by simp [(h.sub s e).2]⟩
    · simp at e; subst e; exact ⟨hx, by simp [Jv.kl_same]⟩
  · by_cases hsx : s = x
    · exact .inr (by simp [hsx])
    · rcases h.all s e with e1 | e1
      · exact .inl (by simp [e1, Jv.kl_same, hsx])
      · exact .inr (by simp [e1])
  · simp only [Bool.and_eq_true] at e
    exact h.has k e.1
def Jv.dups (l : List ByteArray) : List (ByteArray × ByteArray) := l.map fun s => (s, s)
theorem Jv.mems_snoc (l : List ByteArray) (x : ByteArray) : Jv.mems (Jv.dups (l ++ [x])) = Jv.mems (Jv.dups l) ++ [.string x, .string x] := by simp [Jv.mems, Jv.dups, Jv.memE]
theorem Jv.sorted_eq {l ks : List ByteArray} {l4 : List (ByteArray × ByteArray)} (hp : l.Perm ks) (hs : ks.Pairwise fun a b => Lib.compareBytes a.data.toList b.data.toList < 0) (h4 : l4.Perm (Jv.dups l)) (hw : l4.Pairwise fun x y => ¬ Jv.memC y x < 0) : l4 = Jv.dups ks := by
  refine List.Perm.eq_of_pairwise (le := fun x y => ¬ Jv.memC y x < 0) (fun a b _ _ h1 h2 => ?_) hw ?_ (h4.trans (hp.map _))
  · have := Jv.memC_neg a b
    exact Jv.memC_eq (by omega)
  · unfold Jv.dups
    rw [List.pairwise_map]
    refine hs.imp fun {a b} h => ?_
    have h1 : Jv.memC (a, a) (b, b) < 0 := by unfold Jv.memC; rw [if_neg (by simp only; omega)]; exact h
    have := Jv.memC_neg (a, a) (b, b)
    omega
def Jv.nullC : Array Value := #[.int .i64 0, .bool false, .int .i64 0, .string ⟨#[]⟩, .slice none 0 0, .slice none 0 0]
def Jv.objC (kv iv : Value) : Array Value := #[.int .i64 5, .bool false, .int .i64 0, .string ⟨#[]⟩, kv, iv]
/-- What stands for a key: what the map holds there, or a new null. -/
def Tryz.Item (D : DataW Unit) (xv : Nat) (wr : World) (s : ByteArray) (y : Nat) : Prop :=
  D.atKey (Jv.kl s) .nil = .lit (.int .i64 y) ∨ (D.atKey (Jv.kl s) .nil = .nil ∧ xv < y ∧ wr.heap[y]? = some (.cells Jv.nullC 67 (0, 0)))
theorem Jv.rowTy {w : World} {B : Nat} {e T : TypeId} {z : Nat} {v : Value} {n : Nat} {xs : List Value} (h : w.ownsRow B e z v n xs) {k : Nat} {C : Array Value} {fr : Nat × Nat} (hk : w.heap[k]? = some (.cells C T fr)) (hT : T ≠ e) : v.ownBlock ≠ some k := fun e1 => by
  rcases h.2 with ⟨u1, _⟩ | ⟨g, cp, cur, u1, _, u2, _⟩
  · rw [u1] at e1; cases e1
  · rw [u1] at e1
    injection e1 with e1
    simp at e1
    subst e1
    rw [hk] at u2
    injection u2 with u2
    injection u2 with _ u3 _
    exact hT u3
theorem Jv.row_rows {w : World} {B B' : Nat} {e e' : TypeId} {z z' : Nat} {v v' : Value} {n n' : Nat} {xs xs' : List Value} (h : w.ownsRow B e z v n xs) (h' : w.ownsRow B' e' z' v' n' xs') (hT : e' ≠ e) : ∀ k, v'.ownBlock = some k → v.ownBlock ≠ some k := fun k hk => by
  rcases h'.2 with ⟨u1, _⟩ | ⟨g, cp, cur, u1, _, u2, _⟩
  · rw [u1] at hk; cases hk
  · rw [u1] at hk
    injection hk with hk
    simp at hk
    subst hk
    exact Jv.rowTy h u2 hT
/-- The object that OfMap makes: keys and items so far. -/
structure Tryz.Om (w : World) (b n : Nat) (D : DataW Unit) (ks : List ByteArray) (gM capM xv : Nat) (wr : World) (kk ki : Nat) (kv iv : Value) (xs : List Nat) : Prop where
  own : wr.ownsMap Tryz.prog 9 Jv.ptrR b n D
  row : wr.ownsRow (w.heap.size + 1) 85 2 (.slice (some ⟨gM, 0, none⟩) ks.length capM) ks.length (Jv.mems (Jv.dups ks))
  obj : wr.heap[xv]? = some (.cells (Jv.objC kv iv) 67 (0, 0))
  keys : wr.ownsRow (xv + 1) 9 1 kv kk ((ks.take kk).map Value.string)
  items : wr.ownsRow (xv + 1) 29 1 iv ki (xs.map fun x => .pointer (some ⟨x, 0, none⟩))
  its : ∀ (i : Nat) (s : ByteArray) (y : Nat), ks[i]? = some s → xs[i]? = some y → Tryz.Item D xv wr s y
  bel : Below w.heap.size w wr
  lo : b < w.heap.size ∧ w.heap.size ≤ xv ∧ gM < xv
section
variable {w : World} {b n : Nat} {D : DataW Unit} {ks : List ByteArray} {gM capM xv : Nat} {wr : World} {kk ki : Nat} {kv iv : Value} {xs : List Nat}
theorem Tryz.Om.lt (h : Tryz.Om w b n D ks gM capM xv wr kk ki kv iv xs) : xv < wr.heap.size := (Array.getElem?_eq_some_iff.1 h.obj).1
theorem Tryz.Om.below {W : World} (h : Tryz.Om w b n D ks gM capM xv wr kk ki kv iv xs) (hb : Below wr.heap.size wr W) : Tryz.Om w b n D ks gM capM xv W kk ki kv iv xs := by
  have hx := h.lt
  refine ⟨h.own.kept (row := none) ⟨hb.os, hb.tape, hb.output, hb.size, fun i hi _ => hb.block i hi⟩ (by simp), Jv.rowBel h.row hb, (hb.block _ hx).trans h.obj, Jv.rowBel h.keys hb, Jv.rowBel h.items hb, fun i s y h1 h2 => ?_, h.bel.trans (hb.mono (by have := h.lo; omega)), h.lo⟩
  rcases h.its i s y h1 h2 with h3 | ⟨h3, h4, h5⟩
  · exact .inl h3
  · exact .inr ⟨h3, h4, (hb.block _ (Array.getElem?_eq_some_iff.1 h5).1).trans h5⟩
/-- Blocks that a row of its own and the object's block leave as they were. -/
theorem Tryz.Om.turn {W : World} {kv' iv' : Value} {kk' ki' : Nat} {xs' : List Nat} (h : Tryz.Om w b n D ks gM capM xv wr kk ki kv iv xs) (hos : W.os = wr.os) (htp : W.tape = wr.tape) (hou : W.output = wr.output) (hsz : wr.heap.size ≤ W.heap.size) (r : Option Nat) (hr : ∀ k, r = some k → xv < k) (hblk : ∀ k, k < wr.heap.size → k ≠ xv → r ≠ some k → W.heap[k]? = wr.heap[k]?)
    (hnull : ∀ k, wr.heap[k]? = some (.cells Jv.nullC 67 (0, 0)) → r ≠ some k) (hobj : W.heap[xv]? = some (.cells (Jv.objC kv' iv') 67 (0, 0))) (hkeys : W.ownsRow (xv + 1) 9 1 kv' kk' ((ks.take kk').map Value.string)) (hitems : W.ownsRow (xv + 1) 29 1 iv' ki' (xs'.map fun x => .pointer (some ⟨x, 0, none⟩)))
    (hits : ∀ (i : Nat) (s : ByteArray) (y : Nat), ks[i]? = some s → xs'[i]? = some y → Tryz.Item D xv wr s y) : Tryz.Om w b n D ks gM capM xv W kk' ki' kv' iv' xs' := by
  have hx := h.lt
  have hlo := h.lo
  have hM := Jv.row_lo h.row gM rfl
  have hrn : ∀ k, k ≤ xv → r ≠ some k := fun k hk e => by have := hr k e; omega
  obtain ⟨es, clock, hb, hm⟩ := h.own
  have hbl := (Array.getElem?_eq_some_iff.1 hb).1
  refine ⟨⟨es, clock, (hblk b hbl (by omega) (hrn b (by omega))).trans hb, hm⟩, Jv.row_heapZ h.row fun k hk => ?_, hobj, hkeys, hitems, fun i s y h1 h2 => ?_, ⟨hos.trans h.bel.os, htp.trans h.bel.tape, hou.trans h.bel.output, Nat.le_trans h.bel.size hsz, fun k hk => (hblk k (by omega) (by omega) (hrn k (by omega))).trans (h.bel.block k hk)⟩, hlo⟩
  · have hk' : gM = k := by simpa [Value.ownBlock] using hk
    subst hk'
    exact hblk gM hM.2 (by omega) (hrn gM (by omega))
  · rcases hits i s y h1 h2 with h3 | ⟨h3, h4, h5⟩
    · exact .inl h3
    · exact .inr ⟨h3, h4, (hblk y (Array.getElem?_eq_some_iff.1 h5).1 (by omega) (hnull y h5)).trans h5⟩
theorem Jv.take_snoc {ks : List ByteArray} {k : Nat} {s : ByteArray} (h : ks[k]? = some s) : (ks.take (k + 1)).map Value.string = (ks.take k).map Value.string ++ [.string s] := by
  rw [List.take_add_one, h]; simp
/-- A key more. -/
theorem Tryz.Om.key {W : World} {s : ByteArray} {o : Obj} {g cap : Nat} (h : Tryz.Om w b n D ks gM capM xv wr kk ki kv iv xs) (hs : ks[kk]? = some s) (hg : (wr.alloc o).grownBy W kv.ownBlock) (ho : W.ownsRow (xv + 1) 9 1 (.slice (some ⟨g, 0, none⟩) (kk + 1) cap) (kk + 1) ((ks.take kk).map Value.string ++ [.string s])) :
    Tryz.Om w b n D ks gM capM xv (W.setCell ⟨xv, 4, none⟩ (.slice (some ⟨g, 0, none⟩) (kk + 1) cap)) (kk + 1) ki (.slice (some ⟨g, 0, none⟩) (kk + 1) cap) iv xs := by
  have hx := h.lt
  have hkl := Jv.row_lo h.keys
  have hWs : wr.heap.size < W.heap.size := by have := hg.size; simp at this; omega
  have hgl := Jv.row_lo ho g rfl
  have hW : ∀ k, k < wr.heap.size → kv.ownBlock ≠ some k → W.heap[k]? = wr.heap[k]? := fun k hk e => (hg.block k (by simp; omega) (fun e1 => e e1.symm)).trans (Below.heap_alloc wr o k hk)
  have hset : ∀ k, k ≠ xv → (W.setCell ⟨xv, 4, none⟩ (.slice (some ⟨g, 0, none⟩) (kk + 1) cap)).heap[k]? = W.heap[k]? := fun k hk => Below.heap_setCell W ⟨xv, 4, none⟩ _ k (by show k ≠ xv; exact hk)
  have hkx : kv.ownBlock ≠ some xv := fun e => by have := hkl xv e; omega
  refine h.turn hg.os hg.tape hg.output (by show wr.heap.size ≤ (W.setCell _ _).heap.size; simp; omega) kv.ownBlock (fun k e => by have := hkl k e; omega) (fun k hk hne e => (hset k hne).trans (hW k hk e)) (fun k e => Jv.rowTy h.keys e (by decide)) ?_ ?_ ?_ h.its
  · rw [heap_setCell_same W _ _ _ _ _ ((hW xv hx hkx).trans h.obj)]; rfl
  · rw [Jv.take_snoc hs]
    exact Jv.row_heapZ ho fun k hk => hset k (by have := Jv.row_lo ho k hk; omega)
  · refine Jv.row_heapZ h.items fun k hk => ?_
    have := Jv.row_lo h.items k hk
    exact (hset k (by omega)).trans (hW k this.2 (Jv.row_rows h.keys h.items (by decide) k hk))
/-- An item more. -/
theorem Tryz.Om.item {W : World} {s : ByteArray} {y : Nat} {o : Obj} {g cap : Nat} (h : Tryz.Om w b n D ks gM capM xv wr kk ki kv iv xs) (hs : ks[ki]? = some s) (hxs : xs.length = ki) (hy : Tryz.Item D xv wr s y) (hg : (wr.alloc o).grownBy W iv.ownBlock) (ho : W.ownsRow (xv + 1) 29 1 (.slice (some ⟨g, 0, none⟩) (ki + 1) cap) (ki + 1) ((xs.map fun x => .pointer (some ⟨x, 0, none⟩)) ++ [.pointer (some ⟨y, 0, none⟩)])) :
    Tryz.Om w b n D ks gM capM xv (W.setCell ⟨xv, 5, none⟩ (.slice (some ⟨g, 0, none⟩) (ki + 1) cap)) kk (ki + 1) kv (.slice (some ⟨g, 0, none⟩) (ki + 1) cap) (xs ++ [y]) := by
  have hx := h.lt
  have hkl := Jv.row_lo h.items
  have hWs : wr.heap.size < W.heap.size := by have := hg.size; simp at this; omega
  have hW : ∀ k, k < wr.heap.size → iv.ownBlock ≠ some k → W.heap[k]? = wr.heap[k]? := fun k hk e => (hg.block k (by simp; omega) (fun e1 => e e1.symm)).trans (Below.heap_alloc wr o k hk)
  have hset : ∀ k, k ≠ xv → (W.setCell ⟨xv, 5, none⟩ (.slice (some ⟨g, 0, none⟩) (ki + 1) cap)).heap[k]? = W.heap[k]? := fun k hk => Below.heap_setCell W ⟨xv, 5, none⟩ _ k (by show k ≠ xv; exact hk)
  have hkx : iv.ownBlock ≠ some xv := fun e => by have := hkl xv e; omega
  refine h.turn hg.os hg.tape hg.output (by show wr.heap.size ≤ (W.setCell _ _).heap.size; simp; omega) iv.ownBlock (fun k e => by have := hkl k e; omega) (fun k hk hne e => (hset k hne).trans (hW k hk e)) (fun k e => Jv.rowTy h.items e (by decide)) ?_ ?_ ?_ (fun i s' y' h1 h2 => ?_)
  · rw [heap_setCell_same W _ _ _ _ _ ((hW xv hx hkx).trans h.obj)]; rfl
  · refine Jv.row_heapZ h.keys fun k hk => ?_
    have := Jv.row_lo h.keys k hk
    exact (hset k (by omega)).trans (hW k this.2 (Jv.row_rows h.items h.keys (by decide) k hk))
  · rw [List.map_append]
    exact Jv.row_heapZ ho fun k hk => hset k (by have := Jv.row_lo ho k hk; omega)
  · by_cases hi : i < xs.length
    · rw [List.getElem?_append_left hi] at h2
      exact h.its i s' y' h1 h2
    · rw [List.getElem?_append_right (by omega)] at h2
      have hi2 : i = ki := by
        have := (List.getElem?_eq_some_iff.1 h2).1
        simp at this
        omega
      subst hi2
      rw [hxs, Nat.sub_self] at h2
      simp at h2
      rw [hs] at h1
      cases h1
      rw [← h2]
      exact hy
theorem Jv.dups_get : ∀ (ks : List ByteArray) (k : Nat) (s : ByteArray), ks[k]? = some s → (Jv.mems (Jv.dups ks))[k * 2]? = some (.string s) ∧ (Jv.mems (Jv.dups ks))[k * 2 + 1]? = some (.string s)
  | [], _, _, h => by simp at h
  | x :: r, 0, s, h => by
    simp at h
    subst h
    exact ⟨rfl, rfl⟩
  | x :: r, k + 1, s, h => by
    have ih := Jv.dups_get r k s (by simpa using h)
    have e : Jv.mems (Jv.dups (x :: r)) = .string x :: .string x :: Jv.mems (Jv.dups r) := rfl
    rw [e, show (k + 1) * 2 = k * 2 + 1 + 1 by omega]
    simp only [List.getElem?_cons_succ]
    exact ih
/-- A member's two cells. -/
theorem Tryz.Om.mem (h : Tryz.Om w b n D ks gM capM xv wr kk ki kv iv xs) {k : Nat} {s : ByteArray} (hs : ks[k]? = some s) : wr.cell? ⟨gM, k * 2, none⟩ = some (.string s) ∧ wr.cell? ⟨gM, k * 2 + 1, none⟩ = some (.string s) := by
  obtain ⟨d0, d1⟩ := Jv.dups_get ks k s hs
  have hk := (List.getElem?_eq_some_iff.1 hs).1
  rcases h.row.2 with ⟨e, _⟩ | ⟨g, cap, cur, e, _, hb, _, _, _, h4⟩
  · cases e
  · injection e with e _ _
    injection e with e
    injection e with e _ _
    subst e
    rw [← h4] at d0 d1
    rw [List.getElem?_take_of_lt (by omega)] at d0 d1
    rw [cell_of_row _ _ _ _ _ _ hb, cell_of_row _ _ _ _ _ _ hb]
    exact ⟨by simpa using d0, by simpa using d1⟩
theorem Tryz.zeroP (w : World) : (zeroValue 29).run Tryz.prog w = .ok (.pointer none) w := by kernel_rfl
theorem Tryz.present_any (o : Option Nat) (W : World) : Calls Tryz.prog 42 #[Jv.ptrV o] W fun e w' => ∃ y, e = .returned (.pointer (some ⟨y, 0, none⟩)) ∧ Below W.heap.size W w' ∧ (o = some y ∨ (o = none ∧ W.heap.size ≤ y ∧ w'.heap[y]? = some (.cells Jv.nullC 67 (0, 0)))) := by
  cases o with
  | none =>
    unfold Jv.ptrV
    go_enter Tryz.func42, Tryz.ntmps42
    go_wp2
    go_ret
    exact ⟨W.heap.size, rfl, (Below.refl _ _).alloc (Nat.le_refl _) _, .inr ⟨trivial, Nat.le_refl _, heap_alloc_new W _⟩⟩
  | some x =>
    unfold Jv.ptrV
    go_enter Tryz.func42, Tryz.ntmps42
    go_wp2
    go_ret
    exact ⟨x, rfl, Below.refl _ _, .inl rfl⟩
/-- What a look-up gives. -/
theorem Tryz.Om.look (h : Tryz.Om w b n D ks gM capM xv wr kk ki kv iv xs) (s : ByteArray) (hs : s.size ≤ maxLen) : ∃ o, Jv.ptrD o = D.atKey (Jv.kl s) .nil ∧ ∀ W : World, W.heap = wr.heap → (Instr.lookup 53 (.map (some b)) (.string s) false).run Tryz.prog W = .ok (Jv.ptrV o) W := by
  have key : ∀ W : World, W.heap = wr.heap → ∃ o, Jv.ptrD o = D.atKey (Jv.kl s) .nil ∧ (Instr.lookup 53 (.map (some b)) (.string s) false).run Tryz.prog W = .ok (Jv.ptrV o) W := fun W hW => by
    have hown : W.ownsMap Tryz.prog 9 Jv.ptrR b n D := by
      obtain ⟨es, clock, hb, hm⟩ := h.own
      exact ⟨es, clock, by rw [hW]; exact hb, hm⟩
    obtain ⟨v, ps, hrun, hR⟩ := hown.lookup Tryz.strK Tryz.underlying53 (Tryz.zeroP W) (zd := .nil) (zp := []) rfl (WideMaps.keyOf_string_mk Tryz.underlying9 hs)
    obtain ⟨o, rfl, ho⟩ := Jv.ptrR_inv hR
    injection ho with ho _
    exact ⟨o, ho.symm, hrun⟩
  obtain ⟨o, ho, _⟩ := key wr rfl
  refine ⟨o, ho, fun W hW => ?_⟩
  obtain ⟨o', ho', hr⟩ := key W hW
  rw [Jv.ptrD_inj (ho.trans ho'.symm)]
  exact hr
end
end Go.Proofs
