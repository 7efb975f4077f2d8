/-
  Laid together by pack.py of Sn So Sp.
-/
import Derived.Test.YtlfiebapfgpchaaGreatDoorPkP
import Derived.Test.YtlfiebapfgpchaaGreatDoorSqIm
import Derived.Lib.SliceRun
namespace Go.Proofs
open Go.RowKit Go.Wi Go.Se Go.Ct
set_option maxHeartbeats 1000000 in
theorem Tryz.within_any (n a b : Int) (w : World) : Calls Tryz.prog 42 #[.int .i64 n, .int .i64 a, .int .i64 b] w fun e w' => e = .returned (.bool (decide (a ≤ n) && decide (n ≤ b))) ∧ w' = w := by
  by_cases h : a ≤ n
  · go_enter Tryz.func42, Tryz.ntmps42
    go_wp2
    go_ret
    exact ⟨by simp [h], rfl⟩
  · go_enter Tryz.func42, Tryz.ntmps42
    go_wp2
    go_ret
    exact ⟨by rw [decide_eq_false (show ¬ a ≤ n by omega)]; rfl, rfl⟩
set_option maxHeartbeats 1000000 in
theorem Tryz.isTime_any (n : Int) (w : World) : Calls Tryz.prog 21 #[.int .i64 n] w fun e w' => e = .returned (.bool (decide (0 ≤ n) && decide (n ≤ 1000000000))) ∧ w' = w := by
  have h := Tryz.within_any n 0 1000000000 w
  go_enter Tryz.func21, Tryz.ntmps21
  go_wp2_with (first | (go_at_call 42; refine h.mono ?_; clear h; rintro e w1 ⟨rfl, rfl⟩) | fail)
  go_ret
  exact ⟨rfl, rfl⟩
set_option maxHeartbeats 1000000 in
theorem Tryz.isUser_any (s : ByteArray) (w : World) : Calls Tryz.prog 20 #[.string s] w fun e w' => e = .returned (.bool (decide (1 ≤ (s.size : Int)) && decide ((s.size : Int) ≤ 60))) ∧ w' = w := by
  have h := Tryz.within_any (s.size : Int) 1 60 w
  go_enter Tryz.func20, Tryz.ntmps20
  go_wp2_with (first | (go_at_call 42; refine h.mono ?_; clear h; rintro e w1 ⟨rfl, rfl⟩) | fail)
  go_ret
  exact ⟨rfl, rfl⟩
set_option maxHeartbeats 1000000 in
theorem Tryz.isKey_any (ad : Option Addr) (n cap : Nat) (w : World) : Calls Tryz.prog 18 #[.slice ad n cap] w fun e w' => e = .returned (.bool (decide (16 ≤ (n : Int)) && decide ((n : Int) ≤ 64))) ∧ w' = w := by
  have h := Tryz.within_any (n : Int) 16 64 w
  go_enter Tryz.func18, Tryz.ntmps18
  go_wp2_with (first | (go_at_call 42; refine h.mono ?_; clear h; rintro e w1 ⟨rfl, rfl⟩) | fail)
  go_ret
  exact ⟨rfl, rfl⟩
/-- 'append' of bytes to an empty row of one's own: a copy. -/
theorem Tryz.appClone {ops : Array Oper} {rest : List Oper} {o : Oper} {a : Act} {Q : Exit → Act → World → Prop} (hgd : o.guard = none) (s y : Operand)
    (ho : o.op = .call { callee := .builtin .append, args := #[s, y], argTypes := #[29, 29] })
    {w : World} {d : Addr} {n cap : Nat} {l : List UInt8} (h : Bs w (.slice (some d) n cap) l) (hv : ∀ k, (Value.slice (some d) n cap).ownBlock = some k → k < w.heap.size) (hs : a.eval s = .slice (some ⟨w.heap.size, 0, none⟩) 0 0) (hy : a.eval y = .slice (some d) n cap) (hlen : n ≤ 140737488355328)
    (hK : ∀ ad cap w1, w1.ownsRow w.heap.size 5 1 (.slice ad n cap) n (Lib.byteCells l) → Below w.heap.size w w1 → wpList Tryz.prog ops Q rest (a.put o.dst (.slice ad n cap)) w1) : wpList Tryz.prog ops Q (o :: rest) a (w.alloc (.cells #[] 5)) := by
  obtain ⟨i0, hi0, hz0, hz1, hz2⟩ := info_parts Tryz.info_u8
  have hbel : Below w.heap.size w (w.alloc (.cells #[] 5)) := (Below.refl w.heap.size w).alloc (Nat.le_refl _) _
  have h' := h.below hbel hv
  obtain ⟨ad, cap', e, hcap, hn, h1⟩ := h'.ex
  injection e with e1 e2 e3
  subst e1 e2 e3
  have hrow : (w.alloc (.cells #[] 5)).ownsRow w.heap.size 5 1 (.slice (some ⟨w.heap.size, 0, none⟩) 0 0) 0 [] := ⟨rfl, .inr ⟨w.heap.size, 0, #[], rfl, Nat.le_refl _, heap_alloc_new w _, Nat.le_refl _, by unfold maxLen; omega, rfl, rfl⟩⟩
  have hnews : ∀ j u, (Lib.byteCells l)[j]? = some u → (w.alloc (.cells #[] 5)).cell? (d.add j) = some u := by
    rcases h1 with rfl | ⟨g, oo, e, _, h2⟩
    · intro j u hu; simp [Lib.byteCells] at hu
    · cases e
      intro j u hu
      rw [Addr.add_mid]
      exact h2 j u hu
  refine wpList_append_own _ hgd s y 29 ho w.heap.size 5 i0 _ 1 1 Tryz.underlying29 hi0 hz0 hz1 hz2 rfl (by omega) _ 0 [] hs hrow d l.length cap (Lib.byteCells l) hy (by rw [byteCells_len]; omega) hnews (by
    intro u hu
    simp only [Lib.byteCells, List.mem_map] at hu
    obtain ⟨b, _, rfl⟩ := hu
    rfl) (by unfold maxLen; omega) (by omega) hbel.size ?_
  intro v' w' hown hg _
  rw [Nat.zero_add, List.nil_append] at hown
  have hb : Below w.heap.size w w' := hbel.grown hg hbel.size fun k e => (by cases e; exact Nat.le_refl _)
  rcases hown.2 with ⟨rfl, e0⟩ | ⟨g, cap', cur, rfl, _⟩
  · have := hK none 0 w'
    rw [e0] at this hown
    exact this hown hb
  · exact hK _ _ w' hown hb
set_option maxHeartbeats 1000000 in
theorem Tryz.clone_any {w : World} {V : Value} {l : List UInt8} (h : Bs w V l) (hv : ∀ k, V.ownBlock = some k → k < w.heap.size) (hlen : l.length ≤ 140737488355328) :
    Calls Tryz.prog 39 #[V] w fun e w' => ∃ ad cap, e = .returned (.slice ad l.length cap) ∧ w'.ownsRow w.heap.size 5 1 (.slice ad l.length cap) l.length (Lib.byteCells l) ∧ Below w.heap.size w w' := by
  have hq : ∀ (w : World) (a : Option Addr) (n c : Nat), (binOp .eql 29 (.slice a n c) (.slice none 0 0)).run Tryz.prog w = .ok (.bool a.isNone) w := fun w a n c => Lib.run_eql_slice_nil w 29 5 a n c 0 0 Tryz.underlying29
  obtain ⟨ad, cap, rfl, hcap, hnil, hx⟩ := h.ex
  cases ad with
  | none =>
    have h0 := hnil rfl
    subst h0
    obtain rfl : l = [] := List.eq_nil_of_length_eq_zero (by omega)
    clear h hv hx hcap hnil
    simp only [List.length_nil]
    go_enter Tryz.func39, Tryz.ntmps39
    go_wp2
    go_ret
    exact ⟨none, 0, rfl, World.ownsRow_nil _ _ _ _, Below.refl _ _⟩
  | some d =>
    have HB : Hid _ := h
    have HV : Hid (∀ k, (Value.slice (some d) l.length cap).ownBlock = some k → k < w.heap.size) := hv
    have HL : Hid (l.length ≤ 140737488355328) := hlen
    clear h hv hx hcap hnil hlen
    go_enter Tryz.func39, Tryz.ntmps39
    go_wp2_with (first | (at_builtin; refine Tryz.appClone rfl _ _ rfl HB.out HV.out rfl rfl HL.out ?_; intro g1 cap1 w1 ha hb) | fail)
    go_ret
    exact ⟨g1, cap1, rfl, ha, hb⟩
end Go.Proofs
namespace Go.Se
/-- A keeper's numbers. -/
structure Nu where
  life : Int
  burst : Int
  rate : Int
  latest : Int
  given : Int
end Go.Se
namespace Go.Proofs
open Go.RowKit Go.Wi Go.Se Go.Ct
def Se.Nu.cells (n : Nu) (V : Value) (pb db : Nat) : Array Value := #[V, .int .i64 n.life, .int .i64 n.burst, .int .i64 n.rate, .int .i64 n.latest, .int .i64 n.given, .pointer (some ⟨pb, 0, none⟩), .pointer (some ⟨db, 0, none⟩)]
/-- A keeper, all of it in blocks of its own: its key, its numbers, its purse, its dues. -/
structure Tryz.Kp (w : World) (own : Nat → Prop) (kb : Nat) (key : List UInt8) (n : Nu) (L : List ({x : Tk // x.ok} × Int)) (o : Option {x : Tk // x.ok}) (D : List (ByteArray × Int)) : Prop where
  ex : ∃ (V : Value) (pb db : Nat) (ok op od : Nat → Prop), w.heap[kb]? = some (.cells #[V, .int .i64 n.life, .int .i64 n.burst, .int .i64 n.rate, .int .i64 n.latest, .int .i64 n.given, .pointer (some ⟨pb, 0, none⟩), .pointer (some ⟨db, 0, none⟩)] 50 (0, 0)) ∧ Bs w V key ∧ (∀ k, V.ownBlock = some k → ok k) ∧ Tryz.Pu w op pb L o ∧ Tryz.ShS w od db D ∧
    (∀ k, ok k → own k ∧ k ≠ kb ∧ ¬ op k ∧ ¬ od k) ∧ (∀ k, op k → own k ∧ k ≠ kb ∧ ¬ od k) ∧ ∀ k, od k → own k ∧ k ≠ kb
  okb : own kb
  lt : ∀ k, own k → k < w.heap.size
theorem Tryz.Kp.keep {w w' : World} {own : Nat → Prop} {kb : Nat} {key : List UInt8} {n : Nu} {L : List ({x : Tk // x.ok} × Int)} {o : Option {x : Tk // x.ok}} {D : List (ByteArray × Int)} (h : Tryz.Kp w own kb key n L o D) (hk : ∀ k, own k → w'.heap[k]? = w.heap[k]?) (hs : w.heap.size ≤ w'.heap.size) : Tryz.Kp w' own kb key n L o D := by
  obtain ⟨V, pb, db, ok, op, od, h1, h2, h3, h4, h5, h6, h7, h8⟩ := h.ex
  exact ⟨⟨V, pb, db, ok, op, od, (hk kb h.okb).trans h1, h2.keep fun k e => hk k (h6 k (h3 k e)).1, h3, h4.keep (fun k e => hk k (h7 k e).1) hs, h5.keep (fun k e => hk k (h8 k e).1) hs, h6, h7, h8⟩, h.okb, fun k e => Nat.lt_of_lt_of_le (h.lt k e) hs⟩
structure Tryz.KChg (own : Nat → Prop) (w w' : World) (kb : Nat) (key : List UInt8) (n : Nu) (L : List ({x : Tk // x.ok} × Int)) (o : Option {x : Tk // x.ok}) (D : List (ByteArray × Int)) : Prop where
  ex : ∃ own', Tryz.Kp w' own' kb key n L o D ∧ ∀ k, own' k → own k ∨ w.heap.size ≤ k
  wo : Wo own w w'
theorem Tryz.KChg.refl {w : World} {own : Nat → Prop} {kb : Nat} {key : List UInt8} {n : Nu} {L : List ({x : Tk // x.ok} × Int)} {o : Option {x : Tk // x.ok}} {D : List (ByteArray × Int)} (h : Tryz.Kp w own kb key n L o D) : Tryz.KChg own w w kb key n L o D := ⟨⟨own, h, fun _ e => .inl e⟩, Wo.refl _ _⟩
theorem Tryz.KChg.trans {own own1 : Nat → Prop} {w w1 w2 : World} {kb : Nat} {key : List UInt8} {n : Nu} {L : List ({x : Tk // x.ok} × Int)} {o : Option {x : Tk // x.ok}} {D : List (ByteArray × Int)} (hw : Wo own w w1) (ho : ∀ k, own1 k → own k ∨ w.heap.size ≤ k) (g : Tryz.KChg own1 w1 w2 kb key n L o D) : Tryz.KChg own w w2 kb key n L o D := by
  obtain ⟨own2, h1, h2⟩ := g.ex
  have hs := hw.size
  refine ⟨⟨own2, h1, fun k e => ?_⟩, hw.step ho g.wo⟩
  rcases h2 k e with e1 | e1
  · exact ho k e1
  · exact .inr (by omega)
theorem Tryz.KChg.later {w w1 w2 : World} {own : Nat → Prop} {kb : Nat} {key : List UInt8} {n : Nu} {L : List ({x : Tk // x.ok} × Int)} {o : Option {x : Tk // x.ok}} {D : List (ByteArray × Int)} (h : Tryz.KChg own w w1 kb key n L o D) (g : Below w1.heap.size w1 w2) : Tryz.KChg own w w2 kb key n L o D := by
  obtain ⟨own', h1, h2⟩ := h.ex
  exact ⟨⟨own', h1.keep (fun k e => g.block k (h1.lt k e)) g.size, h2⟩, h.wo.below g h.wo.size⟩
/-- A keeper's own cells have turned. -/
theorem Tryz.Kp.set {w : World} {own : Nat → Prop} {kb : Nat} {key : List UInt8} {n n' : Nu} {L : List ({x : Tk // x.ok} × Int)} {o : Option {x : Tk // x.ok}} {D : List (ByteArray × Int)} (h : Tryz.Kp w own kb key n L o D) (i : Nat) (v : Value)
    (hc : ∀ V pb db, (#[V, .int .i64 n.life, .int .i64 n.burst, .int .i64 n.rate, .int .i64 n.latest, .int .i64 n.given, .pointer (some ⟨pb, 0, none⟩), .pointer (some ⟨db, 0, none⟩)] : Array Value).setIfInBounds i v = #[V, .int .i64 n'.life, .int .i64 n'.burst, .int .i64 n'.rate, .int .i64 n'.latest, .int .i64 n'.given, .pointer (some ⟨pb, 0, none⟩), .pointer (some ⟨db, 0, none⟩)]) :
    Tryz.Kp (w.setCell ⟨kb, i, none⟩ v) own kb key n' L o D := by
  obtain ⟨V, pb, db, ok, op, od, h1, h2, h3, h4, h5, h6, h7, h8⟩ := h.ex
  have ho : ∀ k, k ≠ kb → (w.setCell ⟨kb, i, none⟩ v).heap[k]? = w.heap[k]? := fun k hk => Below.heap_setCell w ⟨kb, i, none⟩ _ k (fun e => hk (by simpa using e))
  have hs : w.heap.size ≤ (w.setCell ⟨kb, i, none⟩ v).heap.size := by simp
  have hb := heap_setCell_same w kb i _ _ v h1
  rw [hc] at hb
  exact ⟨⟨V, pb, db, ok, op, od, hb, h2.keep fun k e => ho k (h6 k (h3 k e)).2.1, h3, h4.keep (fun k e => ho k (h7 k e).2.1) hs, h5.keep (fun k e => ho k (h8 k e).2) hs, h6, h7, h8⟩, h.okb, fun k e => by simpa using h.lt k e⟩
set_option maxHeartbeats 2000000 in
set_option maxRecDepth 4000 in
theorem Tryz.withKey_any {w : World} {V : Value} {key : List UInt8} (h : Bs w V key) (hv : ∀ k, V.ownBlock = some k → k < w.heap.size) (hlen : key.length ≤ 140737488355328) :
    Calls Tryz.prog 17 #[V] w fun e w' => ∃ b, e = .returned (.pointer (some ⟨b, 0, none⟩)) ∧ Tryz.Kp w' (fun k => w.heap.size ≤ k ∧ k < w'.heap.size) b key ⟨0, 0, 0, 0, 0⟩ [] none [] ∧ Below w.heap.size w w' := by
  have hcl := Tryz.clone_any h hv hlen
  obtain ⟨ad, cap, rfl, _⟩ := h.ex
  clear h hv hlen
  go_enter Tryz.func17, Tryz.ntmps17
  go_wp2_with (first
    | (go_at_call 39; refine hcl.mono ?_; clear hcl; rintro e w1 ⟨ad1, cap1, rfl, hr1, hb1⟩; have hnp := Tryz.newPurse_any w1)
    | (go_at_call 40; refine hnp.mono ?_; clear hnp; rintro e w2 ⟨pb, rfl, hP2, hb2⟩; have hns := Tryz.newShelfS_any w2)
    | (go_at_call 41; refine hns.mono ?_; clear hns; rintro e w3 ⟨db, rfl, hS3, hb3⟩)
    | fail)
  go_ret
  have hs1 := hb1.size
  have hs2 := hb2.size
  have hs3 := hb3.size
  have hb4 : Below w3.heap.size w3 (w3.alloc (.cells #[.slice ad1 key.length cap1, .int .i64 0, .int .i64 0, .int .i64 0, .int .i64 0, .int .i64 0, .pointer (some ⟨pb, 0, none⟩), .pointer (some ⟨db, 0, none⟩)] 50)) := (Below.refl _ w3).alloc (Nat.le_refl _) _
  have hs4 : (w3.alloc (.cells #[.slice ad1 key.length cap1, .int .i64 0, .int .i64 0, .int .i64 0, .int .i64 0, .int .i64 0, .pointer (some ⟨pb, 0, none⟩), .pointer (some ⟨db, 0, none⟩)] 50)).heap.size = w3.heap.size + 1 := by simp
  refine ⟨w3.heap.size, rfl, ⟨⟨.slice ad1 key.length cap1, pb, db, fun k => w.heap.size ≤ k ∧ k < w1.heap.size, fun k => w1.heap.size ≤ k ∧ k < w2.heap.size, fun k => w2.heap.size ≤ k ∧ k < w3.heap.size, heap_alloc_new w3 _, ?_, fun k e => hr1.lt k e, ?_, ?_, ?_, ?_, ?_⟩, ⟨by omega, by omega⟩, fun k e => e.2⟩, (hb1.trans (hb2.mono hs1)).trans ((hb3.trans (hb4.mono hs3)).mono (by omega))⟩
  · exact (Bs.ofRow hr1).keep fun k e => by
      have := (hr1.lt k e).2
      exact (hb4.block k (by omega)).trans ((hb3.block k (by omega)).trans (hb2.block k this))
  · exact hP2.keep (fun k e => (hb4.block k (by omega)).trans (hb3.block k e.2)) (by omega)
  · exact hS3.keep (fun k e => hb4.block k e.2) (by omega)
  · intro k e
    exact ⟨⟨e.1, by omega⟩, by omega, by omega, by omega⟩
  · intro k e
    exact ⟨⟨by omega, by omega⟩, by omega, by omega⟩
  · intro k e
    exact ⟨⟨by omega, by omega⟩, by omega⟩
end Go.Proofs
namespace Go.Proofs
open Go.RowKit Go.Wi Go.Se Go.Ct
theorem Se.belowS {B : Nat} {w w' : World} (h : Below B w w') (b i : Nat) (v : Value) (hb : B ≤ b) : Below B w (w'.setCell ⟨b, i, none⟩ v) := ⟨h.os, h.tape, h.output, by simpa using h.size, fun k hk => (Below.heap_setCell w' ⟨b, i, none⟩ v k (fun e => by have e' : k = b := (by simpa using e); omega)).trans (h.block k hk)⟩
theorem Se.dec2 {a b n : Int} (h1 : a ≤ n) (h2 : n ≤ b) : (decide (a ≤ n) && decide (n ≤ b)) = true := by simp [h1, h2]
theorem Se.dec2n {a b n : Int} (h : ¬ (a ≤ n ∧ n ≤ b)) : (decide (a ≤ n) && decide (n ≤ b)) = false := by
  rw [Bool.and_eq_false_iff]
  by_cases h1 : a ≤ n
  · right; simp; omega
  · left; simp; omega
/-- Life, burst and rate that may be. -/
def Se.Nu.May (n : Nu) : Prop := (1 ≤ n.life ∧ n.life ≤ 1000000) ∧ (1 ≤ n.burst ∧ n.burst ≤ 100) ∧ (1 ≤ n.rate ∧ n.rate ≤ 1000000)
set_option maxHeartbeats 2000000 in
set_option maxRecDepth 4000 in
theorem Tryz.mayBe_yes {w : World} {own : Nat → Prop} {kb : Nat} {key : List UInt8} {n : Nu} {L : List ({x : Tk // x.ok} × Int)} {o : Option {x : Tk // x.ok}} {D : List (ByteArray × Int)} (h : Tryz.Kp w own kb key n L o D) (hm : Se.Nu.May n) (hl : n.latest = 0) (hg : n.given = 0) :
    Calls Tryz.prog 19 #[.pointer (some ⟨kb, 0, none⟩)] w fun e w' => e = .returned (.bool true) ∧ w' = w := by
  obtain ⟨V, pb, db, ok, op, od, h1, h2, h3, h4, h5, h6, h7, h8⟩ := h.ex
  obtain ⟨⟨m1, m2⟩, ⟨m3, m4⟩, m5, m6⟩ := hm
  rw [hl, hg] at h1
  have c1 : w.cell? ⟨kb, 1, none⟩ = some (.int .i64 n.life) := cell_of_row w kb 1 _ _ _ h1
  have c2 : w.cell? ⟨kb, 2, none⟩ = some (.int .i64 n.burst) := cell_of_row w kb 2 _ _ _ h1
  have c3 : w.cell? ⟨kb, 3, none⟩ = some (.int .i64 n.rate) := cell_of_row w kb 3 _ _ _ h1
  have c4 : w.cell? ⟨kb, 4, none⟩ = some (.int .i64 0) := cell_of_row w kb 4 _ _ _ h1
  have c5 : w.cell? ⟨kb, 5, none⟩ = some (.int .i64 0) := cell_of_row w kb 5 _ _ _ h1
  have q1 := Tryz.within_any n.life 1 1000000 w
  have q2 := Tryz.within_any n.burst 1 100 w
  have q3 := Tryz.within_any n.rate 1 1000000 w
  have q4 := Tryz.isTime_any 0 w
  have q5 := Tryz.within_any 0 0 1000000000 w
  rw [Se.dec2 m1 m2] at q1
  rw [Se.dec2 m3 m4] at q2
  rw [Se.dec2 m5 m6] at q3
  rw [Se.dec2 (by omega) (by omega)] at q4 q5
  clear h h1 h2 h3 h4 h5 h6 h7 h8 m1 m2 m3 m4 m5 m6 hl hg
  generalize n.life = a at *
  generalize n.burst = b at *
  generalize n.rate = c at *
  go_enter Tryz.func19, Tryz.ntmps19
  go_wp2_with (first
    | (go_at_call_of 42 (Value.int IntKind.i64 a); refine q1.mono ?_; clear q1; rintro e w1 ⟨rfl, rfl⟩)
    | (go_at_call_of 42 (Value.int IntKind.i64 b); refine q2.mono ?_; clear q2; rintro e w1 ⟨rfl, rfl⟩)
    | (go_at_call_of 42 (Value.int IntKind.i64 c); refine q3.mono ?_; clear q3; rintro e w1 ⟨rfl, rfl⟩)
    | (go_at_call 21; refine q4.mono ?_; clear q4; rintro e w1 ⟨rfl, rfl⟩)
    | (go_at_call 42; refine q5.mono ?_; clear q5; rintro e w1 ⟨rfl, rfl⟩)
    | fail)
  go_ret
  exact ⟨rfl, rfl⟩
/-- Where a keeper's cells lie. -/
theorem Tryz.Kp.cells {w : World} {own : Nat → Prop} {kb : Nat} {key : List UInt8} {n : Nu} {L : List ({x : Tk // x.ok} × Int)} {o : Option {x : Tk // x.ok}} {D : List (ByteArray × Int)} (h : Tryz.Kp w own kb key n L o D) : ∃ (V : Value) (pb db : Nat), w.heap[kb]? = some (.cells #[V, .int .i64 n.life, .int .i64 n.burst, .int .i64 n.rate, .int .i64 n.latest, .int .i64 n.given, .pointer (some ⟨pb, 0, none⟩), .pointer (some ⟨db, 0, none⟩)] 50 (0, 0)) := by
  obtain ⟨V, pb, db, ok, op, od, h1, _⟩ := h.ex
  exact ⟨V, pb, db, h1⟩
set_option maxHeartbeats 4000000 in
set_option maxRecDepth 4000 in
theorem Tryz.new_yes {w : World} {V : Value} {key : List UInt8} (h : Bs w V key) (hv : ∀ k, V.ownBlock = some k → k < w.heap.size) (hk1 : 16 ≤ key.length) (hk2 : key.length ≤ 64) (a b c : Int) (hm : Se.Nu.May ⟨a, b, c, 0, 0⟩) :
    Calls Tryz.prog 8 #[V, .int .i64 a, .int .i64 b, .int .i64 c] w fun e w' => ∃ kb, e = .returned (.tuple #[.pointer (some ⟨kb, 0, none⟩), .int .i64 0]) ∧ Tryz.Kp w' (fun k => w.heap.size ≤ k ∧ k < w'.heap.size) kb key ⟨a, b, c, 0, 0⟩ [] none [] ∧ Below w.heap.size w w' := by
  have hwk := Tryz.withKey_any h hv (by omega)
  obtain ⟨ad, cap, rfl, _⟩ := h.ex
  have hik := fun W => Tryz.isKey_any ad key.length cap W
  rw [Se.dec2 (by omega) (by omega)] at hik
  have HM : Hid (Se.Nu.May ⟨a, b, c, 0, 0⟩) := hm
  clear h hv hk1 hk2 hm
  generalize hN : key.length = N at hwk hik ⊢
  go_enter Tryz.func8, Tryz.ntmps8
  go_upto_region 2 with (first
    | (go_at_call 17; refine hwk.mono ?_; clear hwk; rintro e w1 ⟨kb, rfl, hK1, hb1⟩)
    | fail)
  obtain ⟨V1, pb, db, hc1⟩ := hK1.cells
  have hK2 := hK1.set (n' := ⟨a, 0, 0, 0, 0⟩) 1 (.int .i64 a) (fun _ _ _ => rfl)
  have hK3 := hK2.set (n' := ⟨a, b, 0, 0, 0⟩) 2 (.int .i64 b) (fun _ _ _ => rfl)
  have hK4 := hK3.set (n' := ⟨a, b, c, 0, 0⟩) 3 (.int .i64 c) (fun _ _ _ => rfl)
  have hb4 : Below w.heap.size w (((w1.setCell ⟨kb, 1, none⟩ (.int .i64 a)).setCell ⟨kb, 2, none⟩ (.int .i64 b)).setCell ⟨kb, 3, none⟩ (.int .i64 c)) := Se.belowS (Se.belowS (Se.belowS hb1 kb 1 _ hK1.okb.1) kb 2 _ hK1.okb.1) kb 3 _ hK1.okb.1
  have c1 : w1.cell? ⟨kb, 1, none⟩ = some (.int .i64 0) := cell_of_row w1 kb 1 _ _ _ hc1
  have c2 : w1.cell? ⟨kb, 2, none⟩ = some (.int .i64 0) := cell_of_row w1 kb 2 _ _ _ hc1
  have c3 : w1.cell? ⟨kb, 3, none⟩ = some (.int .i64 0) := cell_of_row w1 kb 3 _ _ _ hc1
  have f1 := frozen_of_row w1 kb 1 _ _ hc1
  have f2 := frozen_of_row w1 kb 2 _ _ hc1
  have f3 := frozen_of_row w1 kb 3 _ _ hc1
  have hmb := Tryz.mayBe_yes hK4 HM.out rfl rfl
  go_wp2_with (first
    | (go_at_call 18; refine (hik _).mono ?_; clear hik; rintro e w2 ⟨rfl, rfl⟩)
    | (go_at_call 19; refine hmb.mono ?_; clear hmb; rintro e w3 ⟨rfl, rfl⟩)
    | fail)
  have hsz : (((w1.setCell ⟨kb, 1, none⟩ (.int .i64 a)).setCell ⟨kb, 2, none⟩ (.int .i64 b)).setCell ⟨kb, 3, none⟩ (.int .i64 c)).heap.size = w1.heap.size := by simp
  go_ret2
  rw [← hsz] at hK4
  exact ⟨kb, rfl, hK4, hb4⟩
end Go.Proofs
