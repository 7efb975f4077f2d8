/-
  ONE WRITER, ONE READER, above a floor; 'shown'.
-/
import Derived.Test.YtghpbagmpgphfaaVj
import Derived.Lib.SlBytesConst
namespace Go.Wi
theorem shown_l : (([] ++ cnt (zig (-65))) ++ (cnt 2 ++ [97, 98])) ++ [if true then 1 else 0] = ([129, 1, 2, 97, 98, 1] : List UInt8) := by
  have h1 : zig (-65) = 129 := rfl
  rw [h1, cnt_ge (by decide), show 129 / 128 = 1 from rfl, cnt_lt (by decide), cnt_lt (by decide)]
  rfl
def shL : List UInt8 := [129, 1, 2, 97, 98, 1]
theorem shown_1 : (Rs.mk shL 0 none).int = (-65, ⟨shL, 2, none⟩) := rfl
theorem shown_2 : (Rs.mk shL 2 none).text = ([97, 98], ⟨shL, 5, none⟩) := rfl
theorem shown_3 : (Rs.mk shL 5 none).flag = (true, ⟨shL, 6, none⟩) := rfl
theorem shown_4 : (Rs.mk shL 6 none).fin = true := rfl
theorem shown_5 : sum [49, 50, 51, 52, 53, 54, 55, 56, 57] = 3808858755 := by kernel_rfl
end Go.Wi
namespace Go.Proofs
open Go.RowKit Go.Wi
/-- A writer above a floor, below which all is as it was. -/
structure Try.WB (B : Nat) (w0 w : World) (x : Nat) (l : List UInt8) : Prop where
  ex : ∃ own, Try.Wt 69 w own x l ∧ ∀ k, own k → B ≤ k
  bel : Below B w0 w
theorem Try.WB.le {B : Nat} {w0 w : World} {x : Nat} {l : List UInt8} (h : Try.WB B w0 w x l) : B ≤ w.heap.size := by
  obtain ⟨own, h1, h2⟩ := h.ex
  exact Nat.le_of_lt (Nat.lt_of_le_of_lt (h2 x h1.ox) (h1.lt x h1.ox))
theorem Try.WB.chg {B : Nat} {w0 w w' : World} {x : Nat} {l l' : List UInt8} {own : Nat → Prop} (h : Try.WB B w0 w x l) (ho : ∀ k, own k → B ≤ k) (hc : Try.WChg 69 own w w' x l') : Try.WB B w0 w' x l' := by
  obtain ⟨own', h1, h2⟩ := hc.ex
  have hle := h.le
  refine ⟨⟨own', h1, fun k e => ?_⟩, Wo.toBelow h.bel hc.wo ho hle⟩
  rcases h2 k e with e1 | e1
  · exact ho k e1
  · omega
theorem Try.WB.below {B : Nat} {w0 w w' : World} {x : Nat} {l : List UInt8} (h : Try.WB B w0 w x l) (g : Below w.heap.size w w') : Try.WB B w0 w' x l := by
  obtain ⟨own, h1, h2⟩ := h.ex
  exact ⟨⟨own, h1.below g, h2⟩, h.bel.trans (g.mono h.le)⟩
theorem Try.WB.new (w : World) : Calls Try.prog 10 #[] w fun e w' => ∃ x, e = .returned (.pointer (some ⟨x, 0, none⟩)) ∧ Try.WB w.heap.size w w' x [] :=
  (Try.newWriter_any w).mono fun _ _ ⟨x, h1, h2, h3⟩ => ⟨x, h1, ⟨⟨_, h2, fun _ e => e.1⟩, h3⟩⟩
theorem Try.WB.int {B : Nat} {w0 w : World} {x : Nat} {l : List UInt8} (h : Try.WB B w0 w x l) (n : Int) (hn1 : -9223372036854775808 ≤ n) (hn2 : n ≤ 9223372036854775807) (hlen : l.length ≤ 140737488355300) :
    Calls Try.prog 11 #[.pointer (some ⟨x, 0, none⟩), .int .i64 n] w fun e w' => (∃ v, e = .returned v) ∧ Try.WB B w0 w' x (l ++ cnt (zig n)) := by
  obtain ⟨own, h1, h2⟩ := h.ex
  exact (Try.wInt_any h1 n hn1 hn2 hlen).mono fun _ _ ⟨e1, e2⟩ => ⟨e1, h.chg h2 e2⟩
theorem Try.WB.flag {B : Nat} {w0 w : World} {x : Nat} {l : List UInt8} (h : Try.WB B w0 w x l) (b : Bool) (hlen : l.length ≤ 140737488355300) :
    Calls Try.prog 13 #[.pointer (some ⟨x, 0, none⟩), .bool b] w fun e w' => (∃ v, e = .returned v) ∧ Try.WB B w0 w' x (l ++ [if b then 1 else 0]) := by
  obtain ⟨own, h1, h2⟩ := h.ex
  exact (Try.wFlag_any h1 b hlen).mono fun _ _ ⟨e1, e2⟩ => ⟨e1, h.chg h2 e2⟩
theorem Try.WB.text {B : Nat} {w0 w : World} {x : Nat} {l : List UInt8} (h : Try.WB B w0 w x l) (t : ByteArray) (hlen : l.length + t.size ≤ 140737488355290) :
    Calls Try.prog 12 #[.pointer (some ⟨x, 0, none⟩), .string t] w fun e w' => (∃ v, e = .returned v) ∧ Try.WB B w0 w' x (l ++ (cnt t.size ++ t.data.toList)) := by
  obtain ⟨own, h1, h2⟩ := h.ex
  exact (Try.wText_any h1 t hlen).mono fun _ _ ⟨e1, e2⟩ => ⟨e1, h.chg h2 e2⟩
theorem Try.WB.bytes {B : Nat} {w0 w : World} {x : Nat} {l : List UInt8} (h : Try.WB B w0 w x l) (hlen : l.length ≤ 140737488355328) :
    Calls Try.prog 14 #[.pointer (some ⟨x, 0, none⟩)] w fun e w' => ∃ ad cap, e = .returned (.slice ad l.length cap) ∧ w'.ownsRow w.heap.size 5 1 (.slice ad l.length cap) l.length (Lib.byteCells l) ∧ Below w.heap.size w w' := by
  obtain ⟨own, h1, h2⟩ := h.ex
  exact Try.bytes_any h1 hlen
/-- A reader above a floor. -/
structure Try.RB (B : Nat) (w0 w : World) (x : Nat) (s : Rs) : Prop where
  ex : ∃ own, Try.Rd w own x s ∧ ∀ k, own k → B ≤ k
  bel : Below B w0 w
theorem Try.RB.le {B : Nat} {w0 w : World} {x : Nat} {s : Rs} (h : Try.RB B w0 w x s) : B ≤ w.heap.size := by
  obtain ⟨own, h1, h2⟩ := h.ex
  exact Nat.le_of_lt (Nat.lt_of_le_of_lt (h2 x h1.ox) (h1.lt x h1.ox))
theorem Try.RB.chg {B : Nat} {w0 w w' : World} {x : Nat} {s s' : Rs} {own : Nat → Prop} (h : Try.RB B w0 w x s) (hx : B ≤ x) (ho : ∀ k, own k → B ≤ k) (hc : Try.RChg own w w' x s') : Try.RB B w0 w' x s' := by
  obtain ⟨own', h1, h2⟩ := hc.ex
  have hle := h.le
  refine ⟨⟨own', h1, fun k e => ?_⟩, Wo.toBelow h.bel hc.wo (fun k e => by omega) hle⟩
  rcases h2 k e with e1 | e1
  · exact ho k e1
  · omega
theorem Try.RB.below {B : Nat} {w0 w w' : World} {x : Nat} {s : Rs} (h : Try.RB B w0 w x s) (g : Below w.heap.size w w') : Try.RB B w0 w' x s := by
  obtain ⟨own, h1, h2⟩ := h.ex
  exact ⟨⟨own, h1.below g, h2⟩, h.bel.trans (g.mono h.le)⟩
theorem Try.RB.drewN {B : Nat} {w0 w : World} {x : Nat} {s : Rs} (h : Try.RB B w0 w x s) (n : Nat) : Try.RB B w0 (w.drewN n) x s := by
  obtain ⟨own, h1, h2⟩ := h.ex
  exact ⟨⟨own, h1.drewN n, h2⟩, belowN h.bel n⟩
theorem Try.RB.new {w : World} {v : Value} {l : List UInt8} (h : Bs w v l) (hlen : l.length ≤ 140737488355328) : Calls Try.prog 5 #[v] w fun e w' => ∃ x, e = .returned (.pointer (some ⟨x, 0, none⟩)) ∧ Try.RB w.heap.size w w' x ⟨l, 0, none⟩ :=
  (Try.newReader_any h hlen).mono fun _ _ ⟨x, h1, h2, h3⟩ => ⟨x, h1, ⟨⟨_, h2, fun _ e => e.1⟩, h3⟩⟩
theorem Try.RB.int {B : Nat} {w0 w : World} {x : Nat} {s : Rs} (h : Try.RB B w0 w x s) :
    Calls Try.prog 15 #[.pointer (some ⟨x, 0, none⟩)] w fun e w' => e = .returned (.int .i64 s.int.1) ∧ Try.RB B w0 w' x s.int.2 := by
  obtain ⟨own, h1, h2⟩ := h.ex
  exact (Try.rInt_any h1).mono fun _ _ ⟨e1, e2⟩ => ⟨e1, h.chg (h2 x h1.ox) h2 e2⟩
theorem Try.RB.flag {B : Nat} {w0 w : World} {x : Nat} {s : Rs} (h : Try.RB B w0 w x s) :
    Calls Try.prog 17 #[.pointer (some ⟨x, 0, none⟩)] w fun e w' => e = .returned (.bool s.flag.1) ∧ Try.RB B w0 w' x s.flag.2 := by
  obtain ⟨own, h1, h2⟩ := h.ex
  exact (Try.rFlag_any h1).mono fun _ _ ⟨e1, e2⟩ => ⟨e1, h.chg (h2 x h1.ox) h2 e2⟩
theorem Try.RB.text {B : Nat} {w0 w : World} {x : Nat} {s : Rs} (h : Try.RB B w0 w x s) :
    Calls Try.prog 16 #[.pointer (some ⟨x, 0, none⟩)] w fun e w' => e = .returned (.string ⟨s.text.1.toArray⟩) ∧ Try.RB B w0 w' x s.text.2 := by
  obtain ⟨own, h1, h2⟩ := h.ex
  exact (Try.rText_any h1).mono fun _ _ ⟨e1, e2⟩ => ⟨e1, h.chg (h2 x h1.ox) h2 e2⟩
theorem Try.RB.fin {B : Nat} {w0 w : World} {x : Nat} {s : Rs} (h : Try.RB B w0 w x s) :
    Calls Try.prog 18 #[.pointer (some ⟨x, 0, none⟩)] w fun e w' => e = .returned (.bool s.fin) ∧ Try.RB B w0 w' x s := by
  obtain ⟨own, h1, h2⟩ := h.ex
  exact (Try.end_any h1).mono fun _ _ ⟨e1, n, e2⟩ => ⟨e1, by rw [e2]; exact h.drewN n⟩
theorem Try.RB.errNone {B : Nat} {w0 w : World} {x : Nat} {s : Rs} (h : Try.RB B w0 w x s) (hf : s.f = none) :
    Calls Try.prog 9 #[.pointer (some ⟨x, 0, none⟩)] w fun e w' => e = .returned .nilIface ∧ w' = w := by
  obtain ⟨own, h1, h2⟩ := h.ex
  exact Try.err_none h1 hf
theorem Try.RB.errSome {B : Nat} {w0 w : World} {x : Nat} {s : Rs} (h : Try.RB B w0 w x s) {a : Nat} (hf : s.f = some a) :
    Calls Try.prog 9 #[.pointer (some ⟨x, 0, none⟩)] w fun e w' => ∃ z, e = .returned (.iface 43 (.pointer (some ⟨z, 0, none⟩))) ∧ w'.heap[z]? = some (.cells #[.int .i64 a, .int .i64 60] 46 (0, 0)) ∧ Try.RB B w0 w' x s := by
  obtain ⟨own, h1, h2⟩ := h.ex
  exact (Try.err_some h1 hf).mono fun _ _ ⟨z, e1, e2, e3, e4⟩ => ⟨z, e1, e3, h.below e4⟩
/-- A row that was given out, as a text. -/
theorem Try.conv_bs {w : World} {v : Value} {l : List UInt8} (h : Bs w v l) : (convert 22 9 v).run Try.prog w = .ok (.string ⟨l.toArray⟩) w := by
  obtain ⟨ad, cap, rfl, hcap, hn, h1⟩ := h.ex
  rcases h1 with rfl | ⟨g, o, rfl, _, h2⟩
  · exact Try.conv_zero _ ad cap
  · exact Try.conv_any l fun j hj => h2 j _ (Wi.byteCell hj)
theorem Wi.bs_const (w : World) (T : TypeId) (l : List UInt8) (fr : Nat × Nat) : Bs (w.alloc (.cells (Lib.byteCells l).toArray T fr)) (.slice (some ⟨w.heap.size, 0, none⟩) l.length l.length) l := by
  refine ⟨some ⟨w.heap.size, 0, none⟩, l.length, rfl, Nat.le_refl _, (fun e => by cases e), .inr ⟨w.heap.size, 0, rfl, by simp, fun j u hu => ?_⟩⟩
  rw [World.cell?_alloc_mark]
  simpa using hu
set_option maxRecDepth 4000 in
set_option maxHeartbeats 4000000 in
theorem Try.shown_any (w : World) : Calls Try.prog 4 #[] w fun e w' => e = .returned (.bool true) ∧ Below w.heap.size w w' := by
  have h0 := Try.WB.new w
  have hcc := fun W => Lib.run_convert_bytes_const (P := Try.prog) W 22 5 #[.int .u8 49, .int .u8 50, .int .u8 51, .int .u8 52, .int .u8 53, .int .u8 54, .int .u8 55, .int .u8 56, .int .u8 57] 9 9 Try.underlying22 Try.underlying5
  have hsm : ∀ W : World, Calls Try.prog 19 #[.slice (some ⟨W.heap.size, 0, none⟩) 9 9] (W.alloc (.cells #[.int .u8 49, .int .u8 50, .int .u8 51, .int .u8 52, .int .u8 53, .int .u8 54, .int .u8 55, .int .u8 56, .int .u8 57] 5 (9, 9 + 1))) fun e w' => e = .returned (.int .u32 3808858755) ∧ w' = W.alloc (.cells #[.int .u8 49, .int .u8 50, .int .u8 51, .int .u8 52, .int .u8 53, .int .u8 54, .int .u8 55, .int .u8 56, .int .u8 57] 5 (9, 9 + 1)) := fun W => by
    have := Try.sum_any (Wi.bs_const W 5 [49, 50, 51, 52, 53, 54, 55, 56, 57] (9, 9 + 1)) (by decide)
    rw [shown_5] at this
    exact this
  go_enter Try.func4, Try.ntmps4
  go_wp2_with (first
    | (go_at_call 10; refine h0.mono ?_; clear h0; rintro e w1 ⟨x, rfl, hW1⟩; have h1 := hW1.int (-65) (by decide) (by decide) (by simp))
    | (go_at_call 11; refine h1.mono ?_; clear h1 hW1; rintro e w2 ⟨⟨v2, rfl⟩, hW2⟩; have h2 := hW2.text ⟨#[97, 98]⟩ (by have := cnt_len10 (n := zig (-65)) (by decide); simp; have h97 : (ByteArray.mk #[97, 98]).size = 2 := rfl; rw [h97]; omega))
    | (go_at_call 12; refine h2.mono ?_; clear h2 hW2; rintro e w3 ⟨⟨v3, rfl⟩, hW3⟩; have h3 := hW3.flag true (by have e4 : ((([] ++ cnt (zig (-65))) ++ (cnt (ByteArray.mk #[97, 98]).size ++ (ByteArray.mk #[97, 98]).data.toList)) ++ [if true then 1 else 0]) = shL := shown_l; have := congrArg List.length e4; rw [List.length_append] at this; simp only [shL, List.length_cons, List.length_nil] at this; omega))
    | (go_at_call 13; refine h3.mono ?_; clear h3 hW3; rintro e w4 ⟨⟨v4, rfl⟩, hW4⟩; have e4 : ((([] ++ cnt (zig (-65))) ++ (cnt (ByteArray.mk #[97, 98]).size ++ (ByteArray.mk #[97, 98]).data.toList)) ++ [if true then 1 else 0]) = shL := shown_l; replace hW4 : Try.WB w.heap.size w w4 x shL := (by rw [← e4]; exact hW4); clear e4; have h4 := hW4.bytes (by decide))
    | (go_at_call 14; refine h4.mono ?_; clear h4; rintro e w5 ⟨ad, cap, rfl, hown, hb5⟩; have hbs5 := Bs.ofRow hown; have h5 := Try.RB.new hbs5 (by decide))
    | (go_at_call 5; refine h5.mono ?_; clear h5; rintro e w6 ⟨y, rfl, hR6⟩; have hcv : (convert 22 9 (.slice ad shL.length cap)).run Try.prog w6 = .ok (.string ⟨#[129, 1, 2, 97, 98, 1]⟩) w6 := Try.conv_bs (hbs5.below hR6.bel fun k e => (hown.lt k e).2); have h6 := hR6.int; rw [shown_1] at h6)
    | (go_at_call 15; refine h6.mono ?_; clear h6; rintro e w7 ⟨rfl, hR7⟩; have h7 := hR7.text; rw [shown_2] at h7)
    | (go_at_call 16; refine h7.mono ?_; clear h7; rintro e w8 ⟨rfl, hR8⟩; have h8 := hR8.flag; rw [shown_3] at h8)
    | (go_at_call 17; refine h8.mono ?_; clear h8; rintro e w9 ⟨rfl, hR9⟩; have h9 := hR9.fin; rw [shown_4] at h9)
    | (go_at_call 18; refine h9.mono ?_; clear h9; rintro e w10 ⟨rfl, hR10⟩)
    | (go_at_call 19; refine (hsm w10).mono ?_; clear hsm; rintro e w11 ⟨rfl, rfl⟩)
    | fail)
  go_ret
  refine ⟨rfl, ?_⟩
  have hz : w.heap.size ≤ w5.heap.size := Nat.le_trans hW4.le hb5.size
  have hb10 : Below w.heap.size w w10 := (hW4.bel.trans (hb5.mono hW4.le)).trans (hR10.bel.mono hz)
  exact hb10.alloc (Nat.le_trans hz hR10.le) _
end Go.Proofs
