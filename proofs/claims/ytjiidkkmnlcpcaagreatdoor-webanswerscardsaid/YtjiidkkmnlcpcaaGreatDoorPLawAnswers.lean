/-
  Laid together by packg.py of LawAnswers.
-/
import Derived.Test.YtjiidkkmnlcpcaaGreatDoorPaD
import Derived.Test.YtjiidkkmnlcpcaaGreatDoorPaZ
namespace Go.Wb
open Go.RowKit Go.Proofs Go.Wi
def otherT : List UInt8 := [72, 84, 84, 80, 47, 49, 46, 49, 32, 50, 48, 48, 32, 79, 75, 13, 10, 120, 58, 32, 121, 13, 10, 99, 111, 110, 116, 101, 110, 116, 45, 108, 101, 110, 103, 116, 104, 58, 32, 53, 13, 10, 13, 10, 111, 116, 104, 101, 114]
theorem rd_le2 (m : Msg) (l : List UInt8) : (rd m l).2 ≤ l.length := by
  induction l generalizing m with
  | nil => exact Nat.le_refl _
  | cons c r ih =>
    show (if over m then (m, 0) else ((rd (bite m c) r).1, (rd (bite m c) r).2 + 1)).2 ≤ _
    split
    · exact Nat.zero_le _
    · rw [List.length_cons]; exact Nat.succ_le_succ (ih _)
theorem Rb.first {w : World} {g : Nat} {l : List UInt8} (h : Rb w g l) {m c : Nat} (hm : m ≤ l.length) (hc : m ≤ c) : Bs w (.slice (some ⟨g, 0, none⟩) m c) (l.take m) := by
  have hl : (l.take m).length = m := by rw [List.length_take]; omega
  refine ⟨some ⟨g, 0, none⟩, c, by rw [hl], by omega, (fun e => by cases e), .inr ⟨g, 0, rfl, h.lt, fun j u hu => ?_⟩⟩
  rw [Nat.zero_add]
  refine h.cell j u ?_
  have e2 : Lib.byteCells (l.take m) = (Lib.byteCells l).take m := by simp [Lib.byteCells]
  rw [e2, List.getElem?_take] at hu
  split at hu
  · exact hu
  · cases hu
end Go.Wb
namespace Go.Proofs
open Go.RowKit Go.Wi Go.Wb
section
variable {w0 w : World} {gb gc : Nat} {lb lc : List UInt8} {X : List It}
theorem Tryz.AW.parse (h : Tryz.AW w0 w gb gc lb lc X) {g : Nat} {l : List UInt8} (hr : Rb w g l) {m c : Nat} (hm : m ≤ l.length) (hc : m ≤ c) (hl : m ≤ 140737488355328) :
    Calls Tryz.prog 7 #[.slice (some ⟨g, 0, none⟩) m c] w fun e w1 => ∃ st ah hn ch ab bn cb la n ev, e = .returned (.tuple #[.agg #[.int .i64 st, .slice ah hn ch, .slice ab bn cb, .bool la], .int .i64 n, ev]) ∧ Hid (Tryz.AW w0 (w1.alloc (.cells #[.int .i64 st, .slice ah hn ch, .slice ab bn cb, .bool la] 27)) gb gc lb lc (X ++ [⟨w.heap.size, w1.heap.size, l.take m, #[.int .i64 st, .slice ah hn ch, .slice ab bn cb, .bool la], .int .i64 n, ev⟩])) := by
  have hle := rd_le2 newRes (l.take m)
  have hl2 : (l.take m).length = m := by rw [List.length_take]; omega
  refine (Tryz.parse_any (hr.first hm hc) (fun k e => by cases e; exact hr.lt) (by omega) (by omega)).mono ?_
  rintro e w1 hp
  obtain ⟨st, ah, hn, ch, ab, bn, cb, la, n, ev, h1, h2, h3⟩ := Tryz.An.ofPar hp
  exact ⟨st, ah, hn, ch, ab, bn, cb, la, n, ev, h1, Tryz.AW.push h h2 h3⟩
theorem Tryz.AW.read (h : Tryz.AW w0 w gb gc lb lc X) {x : It} (hx : x ∈ X) (hl : x.s.length ≤ 140737488355328) :
    Calls Tryz.prog 9 #[.string ⟨x.s.toArray⟩, .agg x.cs, x.nv, x.ev] w fun e w' => e = .returned (.bool true) ∧ Tryz.AW w0 w' gb gc lb lc X := by
  obtain ⟨h1, h2, h3, h4, h5⟩ := h.it x hx
  refine (Tryz.read_law hl h5 (Nat.le_of_lt (block_lt h4))).mono ?_
  rintro e w' ⟨rfl, hb⟩
  exact ⟨rfl, Tryz.AW.below h hb⟩
theorem Tryz.AW.mineC {x : It} (h : Tryz.AW w0 w gb gc lb lc (x :: X)) (hl : x.s.length ≤ 140737488352000) :
    Calls Tryz.prog 10 #[.agg x.cs] w fun e w' => (∃ v, e = .returned v) ∧ Tryz.AW w0 w' gb gc lb lc X := by
  obtain ⟨h1, h2, h3, h4, h5⟩ := h.it x (List.mem_cons_self ..)
  refine (Tryz.mine_law hl h5).mono ?_
  rintro e w' ⟨hv, hb⟩
  exact ⟨hv, Tryz.AW.mine h hb⟩
theorem Tryz.AW.box (h : Tryz.AW w0 w gb gc lb lc X) {x : It} (hx : x ∈ X) {a b c d : Value} (hc : x.cs = #[a, b, c, d]) : w.cell? ⟨x.hi, 0, none⟩ = some a ∧ w.cell? ⟨x.hi, 1, none⟩ = some b ∧ w.cell? ⟨x.hi, 2, none⟩ = some c ∧ w.cell? ⟨x.hi, 3, none⟩ = some d := by
  obtain ⟨h1, h2, h3, h4, h5⟩ := h.it x hx
  rw [hc] at h4
  exact ⟨cell_of_row _ _ 0 _ _ _ h4, cell_of_row _ _ 1 _ _ _ h4, cell_of_row _ _ 2 _ _ _ h4, cell_of_row _ _ 3 _ _ _ h4⟩
end
set_option maxRecDepth 20000 in
set_option maxHeartbeats 8000000 in
theorem Tryz.webAnswers_go {w : World} (s : List UInt8) (hs : s.length ≤ 140737488351232) (htab : Lib.TabIs Tryz.prog w "internal/strconv.uint64pow10" .u64 Lib.pow10Tab) :
    Calls Tryz.prog 3 #[.string ⟨s.toArray⟩] w fun e w' => e = .returned (.bool true) ∧ Below w.heap.size w w' := by
  have hz := text_size s
  have k0 := Tryz.shown_any htab
  clear htab
  obtain ⟨N, hN⟩ : ∃ N : Nat, s.length + 8 = N := ⟨_, rfl⟩
  have HN : Hid (s.length + 8 = N) := hN
  have hN1 : s.length ≤ N := by omega
  have hN2 : N ≤ 140737488355328 := by omega
  have KL : Hid (∀ W, Calls Tryz.prog 6 #[.string ⟨s.toArray⟩] W fun e w' => ∃ g, e = .returned (.slice (some ⟨g, 0, none⟩) N N) ∧ Hid (g = W.heap.size ∧ Rb w' g (s ++ List.replicate 8 201) ∧ Below W.heap.size W w')) := fun W => (by
    refine (Tryz.lent_any s (by omega) W).mono ?_
    rintro e w' ⟨rfl, h1, h2⟩
    exact ⟨_, by rw [hN], rfl, h1, h2⟩)
  have KM : Hid (∀ W, Calls Tryz.prog 6 #[.string ⟨#[72, 84, 84, 80, 47, 49, 46, 49, 32, 50, 48, 48, 32, 79, 75, 13, 10, 120, 58, 32, 121, 13, 10, 99, 111, 110, 116, 101, 110, 116, 45, 108, 101, 110, 103, 116, 104, 58, 32, 53, 13, 10, 13, 10, 111, 116, 104, 101, 114]⟩] W fun e w' => ∃ g, e = .returned (.slice (some ⟨g, 0, none⟩) 57 57) ∧ Hid (g = W.heap.size ∧ Rb w' g (otherT ++ List.replicate 8 201) ∧ Below W.heap.size W w')) := fun W => (by
    refine (Tryz.lent_any otherT (by decide) W).mono ?_
    rintro e w' ⟨rfl, h1, h2⟩
    exact ⟨_, rfl, rfl, h1, h2⟩)
  clear hN
  go_enter Tryz.func3, Tryz.ntmps3
  go_upto_region 4 with (first
    | (go_at_call 5; refine k0.mono ?_; clear k0; rintro e w1 ⟨rfl, hb1⟩; have HB1 : Hid (Below w.heap.size w w1) := hb1; have k1 := KL.out w1; clear hb1 KL)
    | (go_at_call 6; refine k1.mono ?_; clear k1; rintro e w2 ⟨gb, rfl, HL2⟩; have k2 := KM.out w2; clear KM)
    | (go_at_call 6; refine k2.mono ?_; clear k2; rintro e w3 ⟨gc, rfl, HL3⟩)
    | fail)
  have H3 : Hid (Tryz.AW w w3 gb gc (s ++ List.replicate 8 201) (otherT ++ List.replicate 8 201) []) := (by
    obtain ⟨e1, r1, b1⟩ := HL2.out
    obtain ⟨e2, r2, b2⟩ := HL3.out
    have s1 := HB1.out.size
    have s2 := b1.size
    have hlt := r1.lt
    have hb2 := HB1.out.trans (b1.mono s1)
    exact ⟨hb2.trans (b2.mono hb2.size), by omega, by omega, by omega, r1.keep (b2.block _ r1.lt) b2.size, r2, (fun x hx => by cases hx), List.Pairwise.nil⟩)
  clear HB1 HL2 HL3
  have e8 : (s ++ List.replicate 8 (201 : UInt8)).take s.length = s := List.take_left
  have e9 : (otherT ++ List.replicate 8 (201 : UInt8)).take 49 = otherT := rfl
  have el8 : (s ++ List.replicate 8 (201 : UInt8)).length = N := by rw [List.length_append, List.length_replicate, HN.out]
  have HLB : Hid ((s ++ List.replicate 8 (201 : UInt8)).take s.length = s ∧ (s ++ List.replicate 8 (201 : UInt8)).length = N) := ⟨e8, el8⟩
  have HLC : Hid ((otherT ++ List.replicate 8 (201 : UInt8)).take 49 = otherT ∧ 49 ≤ (otherT ++ List.replicate 8 (201 : UInt8)).length) := ⟨e9, by decide⟩
  have KSB : Hid (∀ W X, Tryz.AW w W gb gc (s ++ List.replicate 8 201) (otherT ++ List.replicate 8 201) X → Calls Tryz.prog 8 #[.slice (some ⟨gb, 0, none⟩) N N, .string ⟨s.toArray⟩] W fun e w' => e = .returned (.bool true) ∧ Hid (Tryz.AW w w' gb gc (List.replicate N 77) (otherT ++ List.replicate 8 201) X)) := fun W X h => (by
    have := Tryz.still_any s (by omega) h.rb
    rw [HN.out] at this
    refine this.mono ?_
    rintro e w' ⟨rfl, h1, h2⟩
    exact ⟨rfl, Tryz.AW.stillB h h1 h2⟩)
  have KSC : Hid (∀ W lb X, Tryz.AW w W gb gc lb (otherT ++ List.replicate 8 201) X → Calls Tryz.prog 8 #[.slice (some ⟨gc, 0, none⟩) 57 57, .string ⟨#[72, 84, 84, 80, 47, 49, 46, 49, 32, 50, 48, 48, 32, 79, 75, 13, 10, 120, 58, 32, 121, 13, 10, 99, 111, 110, 116, 101, 110, 116, 45, 108, 101, 110, 103, 116, 104, 58, 32, 53, 13, 10, 13, 10, 111, 116, 104, 101, 114]⟩] W fun e w' => e = .returned (.bool true) ∧ Hid (Tryz.AW w w' gb gc lb (List.replicate 57 77) X)) := fun W lb X h => (by
    refine (Tryz.still_any otherT (by decide) h.rc).mono ?_
    rintro e w' ⟨rfl, h1, h2⟩
    exact ⟨rfl, Tryz.AW.stillC h h1 h2⟩)
  clear e8 e9 el8
  generalize hlb : s ++ List.replicate 8 (201 : UInt8) = lb at *
  generalize hlc : otherT ++ List.replicate 8 (201 : UInt8) = lc at *
  clear hlb hlc
  have kp1 := Tryz.AW.parse H3.out H3.out.rb (m := s.length) (c := N) (by rw [HLB.out.2]; omega) (by omega) (by omega)
  rw [HLB.out.1] at kp1
  go_upto_region 5 with (first
    | (go_at_call 7; refine kp1.mono ?_; clear kp1; rintro e v1 ⟨st1, ah1, hn1, ch1, ab1, bn1, cb1, la1, n1, ev1, rfl, HP1⟩)
    | fail)
  obtain ⟨lo1, hlo1⟩ : ∃ g, w3.heap.size = g := ⟨_, rfl⟩
  obtain ⟨g1, hg1⟩ : ∃ g, v1.heap.size = g := ⟨_, rfl⟩
  rw [hlo1, hg1] at HP1
  rw [hg1]
  generalize v1.alloc _ = w4 at *
  clear hlo1 hg1 H3
  have kp2 := Tryz.AW.parse HP1.out HP1.out.rc (m := 49) (c := 57) HLC.out.2 (by omega) (by omega)
  rw [HLC.out.1] at kp2
  go_upto_region 6 with (first
    | (go_at_call 7; refine kp2.mono ?_; clear kp2; rintro e v2 ⟨st2, ah2, hn2, ch2, ab2, bn2, cb2, la2, n2, ev2, rfl, HP2⟩)
    | fail)
  obtain ⟨lo2, hlo2⟩ : ∃ g, w4.heap.size = g := ⟨_, rfl⟩
  obtain ⟨g2, hg2⟩ : ∃ g, v2.heap.size = g := ⟨_, rfl⟩
  rw [hlo2, hg2] at HP2
  rw [hg2]
  generalize v2.alloc _ = w5 at *
  clear hlo2 hg2 HP1
  have kp3 := Tryz.AW.parse HP2.out HP2.out.rb (m := s.length) (c := N) (by rw [HLB.out.2]; omega) (by omega) (by omega)
  rw [HLB.out.1] at kp3
  go_upto_region 7 with (first
    | (go_at_call 7; refine kp3.mono ?_; clear kp3; rintro e v3 ⟨st3, ah3, hn3, ch3, ab3, bn3, cb3, la3, n3, ev3, rfl, HP3⟩)
    | fail)
  obtain ⟨lo3, hlo3⟩ : ∃ g, w5.heap.size = g := ⟨_, rfl⟩
  obtain ⟨g3, hg3⟩ : ∃ g, v3.heap.size = g := ⟨_, rfl⟩
  rw [hlo3, hg3] at HP3
  rw [hg3]
  generalize v3.alloc _ = w6 at *
  clear hlo3 hg3 HP2
  have ks := KSB.out w6 _ HP3.out
  clear KSB HLB HLC
  go_upto_region 9 with (first
    | (go_at_call 8; refine ks.mono ?_; clear ks; rintro e w7 ⟨rfl, H7⟩; have kt := KSC.out w7 _ _ H7.out; clear KSC)
    | (go_at_call 8; refine kt.mono ?_; clear kt; rintro e w8 ⟨rfl, H8⟩)
    | fail)
  clear HP3 H7
  have HLB : Hid ((List.replicate N (77 : UInt8)).take s.length = List.replicate s.length 77 ∧ (List.replicate N (77 : UInt8)).length = N) := ⟨by rw [List.take_replicate, Nat.min_eq_left (by omega)], by simp⟩
  have hcw := Tryz.conv_bs (H8.out.rb.first (m := s.length) (c := N) (by rw [HLB.out.2]; omega) (by omega))
  rw [HLB.out.1] at hcw
  have HWL : Hid ((List.replicate s.length (77 : UInt8)).length = s.length) := (by show _ = _; simp)
  generalize hlb : List.replicate N (77 : UInt8) = lb at *
  generalize hlc : List.replicate 57 (77 : UInt8) = lc at *
  generalize hwas : List.replicate s.length (77 : UInt8) = was at *
  clear hlb hlc hwas
  go_upto_region 10 with (fail)
  clear hcw
  have kp4 := Tryz.AW.parse H8.out H8.out.rb (m := s.length) (c := N) (by rw [HLB.out.2]; omega) (by omega) (by omega)
  rw [HLB.out.1] at kp4
  go_upto_region 11 with (first
    | (go_at_call 7; refine kp4.mono ?_; clear kp4; rintro e v4 ⟨st4, ah4, hn4, ch4, ab4, bn4, cb4, la4, n4, ev4, rfl, HP4⟩)
    | fail)
  obtain ⟨lo4, hlo4⟩ : ∃ g, w8.heap.size = g := ⟨_, rfl⟩
  obtain ⟨g4, hg4⟩ : ∃ g, v4.heap.size = g := ⟨_, rfl⟩
  rw [hlo4, hg4] at HP4
  rw [hg4]
  generalize v4.alloc _ = w9 at *
  clear hlo4 hg4 H8
  have HI4 : Hid (Tryz.AW w w9 gb gc lb lc [(⟨lo1, g1, s, #[.int .i64 st1, .slice ah1 hn1 ch1, .slice ab1 bn1 cb1, .bool la1], .int .i64 n1, ev1⟩ : It), (⟨lo2, g2, otherT, #[.int .i64 st2, .slice ah2 hn2 ch2, .slice ab2 bn2 cb2, .bool la2], .int .i64 n2, ev2⟩ : It), (⟨lo3, g3, s, #[.int .i64 st3, .slice ah3 hn3 ch3, .slice ab3 bn3 cb3, .bool la3], .int .i64 n3, ev3⟩ : It), (⟨lo4, g4, was, #[.int .i64 st4, .slice ah4 hn4 ch4, .slice ab4 bn4 cb4, .bool la4], .int .i64 n4, ev4⟩ : It)]) := HP4.out
  obtain ⟨X4, hX4⟩ : ∃ X : List It, X = [(⟨lo1, g1, s, #[.int .i64 st1, .slice ah1 hn1 ch1, .slice ab1 bn1 cb1, .bool la1], .int .i64 n1, ev1⟩ : It), (⟨lo2, g2, otherT, #[.int .i64 st2, .slice ah2 hn2 ch2, .slice ab2 bn2 cb2, .bool la2], .int .i64 n2, ev2⟩ : It), (⟨lo3, g3, s, #[.int .i64 st3, .slice ah3 hn3 ch3, .slice ab3 bn3 cb3, .bool la3], .int .i64 n3, ev3⟩ : It), (⟨lo4, g4, was, #[.int .i64 st4, .slice ah4 hn4 ch4, .slice ab4 bn4 cb4, .bool la4], .int .i64 n4, ev4⟩ : It)] := ⟨_, rfl⟩
  obtain ⟨X3, hX3⟩ : ∃ X : List It, X = [(⟨lo2, g2, otherT, #[.int .i64 st2, .slice ah2 hn2 ch2, .slice ab2 bn2 cb2, .bool la2], .int .i64 n2, ev2⟩ : It), (⟨lo3, g3, s, #[.int .i64 st3, .slice ah3 hn3 ch3, .slice ab3 bn3 cb3, .bool la3], .int .i64 n3, ev3⟩ : It), (⟨lo4, g4, was, #[.int .i64 st4, .slice ah4 hn4 ch4, .slice ab4 bn4 cb4, .bool la4], .int .i64 n4, ev4⟩ : It)] := ⟨_, rfl⟩
  obtain ⟨X2, hX2⟩ : ∃ X : List It, X = [(⟨lo3, g3, s, #[.int .i64 st3, .slice ah3 hn3 ch3, .slice ab3 bn3 cb3, .bool la3], .int .i64 n3, ev3⟩ : It), (⟨lo4, g4, was, #[.int .i64 st4, .slice ah4 hn4 ch4, .slice ab4 bn4 cb4, .bool la4], .int .i64 n4, ev4⟩ : It)] := ⟨_, rfl⟩
  have KR14 : Hid (∀ W, Tryz.AW w W gb gc lb lc X4 → Calls Tryz.prog 9 #[.string ⟨s.toArray⟩, .agg #[.int .i64 st1, .slice ah1 hn1 ch1, .slice ab1 bn1 cb1, .bool la1], .int .i64 n1, ev1] W fun e w' => e = .returned (.bool true) ∧ Hid (Tryz.AW w w' gb gc lb lc X4)) := fun W h => (by
    refine (Tryz.AW.read h (x := (⟨lo1, g1, s, #[.int .i64 st1, .slice ah1 hn1 ch1, .slice ab1 bn1 cb1, .bool la1], .int .i64 n1, ev1⟩ : It)) (by rw [hX4]; simp) (by show s.length ≤ _; omega)).mono ?_
    rintro e w' ⟨rfl, h1⟩
    exact ⟨rfl, h1⟩)
  have KR24 : Hid (∀ W, Tryz.AW w W gb gc lb lc X4 → Calls Tryz.prog 9 #[.string ⟨#[72, 84, 84, 80, 47, 49, 46, 49, 32, 50, 48, 48, 32, 79, 75, 13, 10, 120, 58, 32, 121, 13, 10, 99, 111, 110, 116, 101, 110, 116, 45, 108, 101, 110, 103, 116, 104, 58, 32, 53, 13, 10, 13, 10, 111, 116, 104, 101, 114]⟩, .agg #[.int .i64 st2, .slice ah2 hn2 ch2, .slice ab2 bn2 cb2, .bool la2], .int .i64 n2, ev2] W fun e w' => e = .returned (.bool true) ∧ Hid (Tryz.AW w w' gb gc lb lc X4)) := fun W h => (by
    refine (Tryz.AW.read h (x := (⟨lo2, g2, otherT, #[.int .i64 st2, .slice ah2 hn2 ch2, .slice ab2 bn2 cb2, .bool la2], .int .i64 n2, ev2⟩ : It)) (by rw [hX4]; simp) (by show otherT.length ≤ _; decide)).mono ?_
    rintro e w' ⟨rfl, h1⟩
    exact ⟨rfl, h1⟩)
  have KR34 : Hid (∀ W, Tryz.AW w W gb gc lb lc X4 → Calls Tryz.prog 9 #[.string ⟨s.toArray⟩, .agg #[.int .i64 st3, .slice ah3 hn3 ch3, .slice ab3 bn3 cb3, .bool la3], .int .i64 n3, ev3] W fun e w' => e = .returned (.bool true) ∧ Hid (Tryz.AW w w' gb gc lb lc X4)) := fun W h => (by
    refine (Tryz.AW.read h (x := (⟨lo3, g3, s, #[.int .i64 st3, .slice ah3 hn3 ch3, .slice ab3 bn3 cb3, .bool la3], .int .i64 n3, ev3⟩ : It)) (by rw [hX4]; simp) (by show s.length ≤ _; omega)).mono ?_
    rintro e w' ⟨rfl, h1⟩
    exact ⟨rfl, h1⟩)
  have KR44 : Hid (∀ W, Tryz.AW w W gb gc lb lc X4 → Calls Tryz.prog 9 #[.string ⟨was.toArray⟩, .agg #[.int .i64 st4, .slice ah4 hn4 ch4, .slice ab4 bn4 cb4, .bool la4], .int .i64 n4, ev4] W fun e w' => e = .returned (.bool true) ∧ Hid (Tryz.AW w w' gb gc lb lc X4)) := fun W h => (by
    refine (Tryz.AW.read h (x := (⟨lo4, g4, was, #[.int .i64 st4, .slice ah4 hn4 ch4, .slice ab4 bn4 cb4, .bool la4], .int .i64 n4, ev4⟩ : It)) (by rw [hX4]; simp) (by show was.length ≤ _; have := HWL.out; omega)).mono ?_
    rintro e w' ⟨rfl, h1⟩
    exact ⟨rfl, h1⟩)
  have KR23 : Hid (∀ W, Tryz.AW w W gb gc lb lc X3 → Calls Tryz.prog 9 #[.string ⟨#[72, 84, 84, 80, 47, 49, 46, 49, 32, 50, 48, 48, 32, 79, 75, 13, 10, 120, 58, 32, 121, 13, 10, 99, 111, 110, 116, 101, 110, 116, 45, 108, 101, 110, 103, 116, 104, 58, 32, 53, 13, 10, 13, 10, 111, 116, 104, 101, 114]⟩, .agg #[.int .i64 st2, .slice ah2 hn2 ch2, .slice ab2 bn2 cb2, .bool la2], .int .i64 n2, ev2] W fun e w' => e = .returned (.bool true) ∧ Hid (Tryz.AW w w' gb gc lb lc X3)) := fun W h => (by
    refine (Tryz.AW.read h (x := (⟨lo2, g2, otherT, #[.int .i64 st2, .slice ah2 hn2 ch2, .slice ab2 bn2 cb2, .bool la2], .int .i64 n2, ev2⟩ : It)) (by rw [hX3]; simp) (by show otherT.length ≤ _; decide)).mono ?_
    rintro e w' ⟨rfl, h1⟩
    exact ⟨rfl, h1⟩)
  have KR33 : Hid (∀ W, Tryz.AW w W gb gc lb lc X3 → Calls Tryz.prog 9 #[.string ⟨s.toArray⟩, .agg #[.int .i64 st3, .slice ah3 hn3 ch3, .slice ab3 bn3 cb3, .bool la3], .int .i64 n3, ev3] W fun e w' => e = .returned (.bool true) ∧ Hid (Tryz.AW w w' gb gc lb lc X3)) := fun W h => (by
    refine (Tryz.AW.read h (x := (⟨lo3, g3, s, #[.int .i64 st3, .slice ah3 hn3 ch3, .slice ab3 bn3 cb3, .bool la3], .int .i64 n3, ev3⟩ : It)) (by rw [hX3]; simp) (by show s.length ≤ _; omega)).mono ?_
    rintro e w' ⟨rfl, h1⟩
    exact ⟨rfl, h1⟩)
  have KR32 : Hid (∀ W, Tryz.AW w W gb gc lb lc X2 → Calls Tryz.prog 9 #[.string ⟨s.toArray⟩, .agg #[.int .i64 st3, .slice ah3 hn3 ch3, .slice ab3 bn3 cb3, .bool la3], .int .i64 n3, ev3] W fun e w' => e = .returned (.bool true) ∧ Hid (Tryz.AW w w' gb gc lb lc X2)) := fun W h => (by
    refine (Tryz.AW.read h (x := (⟨lo3, g3, s, #[.int .i64 st3, .slice ah3 hn3 ch3, .slice ab3 bn3 cb3, .bool la3], .int .i64 n3, ev3⟩ : It)) (by rw [hX2]; simp) (by show s.length ≤ _; omega)).mono ?_
    rintro e w' ⟨rfl, h1⟩
    exact ⟨rfl, h1⟩)
  have KC14 : Hid (∀ W, Tryz.AW w W gb gc lb lc X4 → W.cell? ⟨g1, 0, none⟩ = some (.int .i64 st1) ∧ W.cell? ⟨g1, 1, none⟩ = some (.slice ah1 hn1 ch1) ∧ W.cell? ⟨g1, 2, none⟩ = some (.slice ab1 bn1 cb1) ∧ W.cell? ⟨g1, 3, none⟩ = some (.bool la1)) := fun W h => Tryz.AW.box h (x := (⟨lo1, g1, s, #[.int .i64 st1, .slice ah1 hn1 ch1, .slice ab1 bn1 cb1, .bool la1], .int .i64 n1, ev1⟩ : It)) (by rw [hX4]; simp) rfl
  have KC24 : Hid (∀ W, Tryz.AW w W gb gc lb lc X4 → W.cell? ⟨g2, 0, none⟩ = some (.int .i64 st2) ∧ W.cell? ⟨g2, 1, none⟩ = some (.slice ah2 hn2 ch2) ∧ W.cell? ⟨g2, 2, none⟩ = some (.slice ab2 bn2 cb2) ∧ W.cell? ⟨g2, 3, none⟩ = some (.bool la2)) := fun W h => Tryz.AW.box h (x := (⟨lo2, g2, otherT, #[.int .i64 st2, .slice ah2 hn2 ch2, .slice ab2 bn2 cb2, .bool la2], .int .i64 n2, ev2⟩ : It)) (by rw [hX4]; simp) rfl
  have KC34 : Hid (∀ W, Tryz.AW w W gb gc lb lc X4 → W.cell? ⟨g3, 0, none⟩ = some (.int .i64 st3) ∧ W.cell? ⟨g3, 1, none⟩ = some (.slice ah3 hn3 ch3) ∧ W.cell? ⟨g3, 2, none⟩ = some (.slice ab3 bn3 cb3) ∧ W.cell? ⟨g3, 3, none⟩ = some (.bool la3)) := fun W h => Tryz.AW.box h (x := (⟨lo3, g3, s, #[.int .i64 st3, .slice ah3 hn3 ch3, .slice ab3 bn3 cb3, .bool la3], .int .i64 n3, ev3⟩ : It)) (by rw [hX4]; simp) rfl
  have KC44 : Hid (∀ W, Tryz.AW w W gb gc lb lc X4 → W.cell? ⟨g4, 0, none⟩ = some (.int .i64 st4) ∧ W.cell? ⟨g4, 1, none⟩ = some (.slice ah4 hn4 ch4) ∧ W.cell? ⟨g4, 2, none⟩ = some (.slice ab4 bn4 cb4) ∧ W.cell? ⟨g4, 3, none⟩ = some (.bool la4)) := fun W h => Tryz.AW.box h (x := (⟨lo4, g4, was, #[.int .i64 st4, .slice ah4 hn4 ch4, .slice ab4 bn4 cb4, .bool la4], .int .i64 n4, ev4⟩ : It)) (by rw [hX4]; simp) rfl
  have KC23 : Hid (∀ W, Tryz.AW w W gb gc lb lc X3 → W.cell? ⟨g2, 0, none⟩ = some (.int .i64 st2) ∧ W.cell? ⟨g2, 1, none⟩ = some (.slice ah2 hn2 ch2) ∧ W.cell? ⟨g2, 2, none⟩ = some (.slice ab2 bn2 cb2) ∧ W.cell? ⟨g2, 3, none⟩ = some (.bool la2)) := fun W h => Tryz.AW.box h (x := (⟨lo2, g2, otherT, #[.int .i64 st2, .slice ah2 hn2 ch2, .slice ab2 bn2 cb2, .bool la2], .int .i64 n2, ev2⟩ : It)) (by rw [hX3]; simp) rfl
  have KC33 : Hid (∀ W, Tryz.AW w W gb gc lb lc X3 → W.cell? ⟨g3, 0, none⟩ = some (.int .i64 st3) ∧ W.cell? ⟨g3, 1, none⟩ = some (.slice ah3 hn3 ch3) ∧ W.cell? ⟨g3, 2, none⟩ = some (.slice ab3 bn3 cb3) ∧ W.cell? ⟨g3, 3, none⟩ = some (.bool la3)) := fun W h => Tryz.AW.box h (x := (⟨lo3, g3, s, #[.int .i64 st3, .slice ah3 hn3 ch3, .slice ab3 bn3 cb3, .bool la3], .int .i64 n3, ev3⟩ : It)) (by rw [hX3]; simp) rfl
  have KC32 : Hid (∀ W, Tryz.AW w W gb gc lb lc X2 → W.cell? ⟨g3, 0, none⟩ = some (.int .i64 st3) ∧ W.cell? ⟨g3, 1, none⟩ = some (.slice ah3 hn3 ch3) ∧ W.cell? ⟨g3, 2, none⟩ = some (.slice ab3 bn3 cb3) ∧ W.cell? ⟨g3, 3, none⟩ = some (.bool la3)) := fun W h => Tryz.AW.box h (x := (⟨lo3, g3, s, #[.int .i64 st3, .slice ah3 hn3 ch3, .slice ab3 bn3 cb3, .bool la3], .int .i64 n3, ev3⟩ : It)) (by rw [hX2]; simp) rfl
  have KN1 : Hid (∀ W, Tryz.AW w W gb gc lb lc X4 → Calls Tryz.prog 10 #[.agg #[.int .i64 st1, .slice ah1 hn1 ch1, .slice ab1 bn1 cb1, .bool la1]] W fun e w' => (∃ v, e = .returned v) ∧ Hid (Tryz.AW w w' gb gc lb lc X3)) := fun W h => (by
    rw [hX4] at h
    refine (Tryz.AW.mineC h (by show s.length ≤ _; omega)).mono ?_
    rintro e w' ⟨hv, h1⟩
    exact ⟨hv, (by rw [hX3]; exact h1)⟩)
  have KN2 : Hid (∀ W, Tryz.AW w W gb gc lb lc X3 → Calls Tryz.prog 10 #[.agg #[.int .i64 st2, .slice ah2 hn2 ch2, .slice ab2 bn2 cb2, .bool la2]] W fun e w' => (∃ v, e = .returned v) ∧ Hid (Tryz.AW w w' gb gc lb lc X2)) := fun W h => (by
    rw [hX3] at h
    refine (Tryz.AW.mineC h (by show otherT.length ≤ _; decide)).mono ?_
    rintro e w' ⟨hv, h1⟩
    exact ⟨hv, (by rw [hX2]; exact h1)⟩)
  rw [← hX4] at HI4
  clear hX2 hX3 hX4 HP4 HWL HLB
  have hw9 := HI4.out
  obtain ⟨p0, p1, p2, p3⟩ := KC14.out w9 hw9
  have k0 := KR14.out w9 hw9
  clear hw9 HI4
  go_wp2_with (first
    | (go_at_call 9; refine k0.mono ?_; clear k0 p0 p1 p2 p3; rintro e x0 ⟨rfl, Q0⟩; obtain ⟨p0, p1, p2, p3⟩ := KC24.out x0 Q0.out; have k1 := KR24.out x0 Q0.out; clear Q0)
    | (go_at_call 9; refine k1.mono ?_; clear k1 p0 p1 p2 p3; rintro e x1 ⟨rfl, Q1⟩; obtain ⟨p0, p1, p2, p3⟩ := KC34.out x1 Q1.out; have k2 := KR34.out x1 Q1.out; clear Q1)
    | (go_at_call 9; refine k2.mono ?_; clear k2 p0 p1 p2 p3; rintro e x2 ⟨rfl, Q2⟩; obtain ⟨p0, p1, p2, p3⟩ := KC44.out x2 Q2.out; have k3 := KR44.out x2 Q2.out; clear Q2)
    | (go_at_call 9; refine k3.mono ?_; clear k3 p0 p1 p2 p3; rintro e x3 ⟨rfl, Q3⟩; obtain ⟨p0, p1, p2, p3⟩ := KC14.out x3 Q3.out; have k4 := KN1.out x3 Q3.out; clear Q3)
    | (go_at_call 10; refine k4.mono ?_; clear k4 p0 p1 p2 p3; rintro e x4 ⟨⟨vm4, rfl⟩, Q4⟩; obtain ⟨p0, p1, p2, p3⟩ := KC23.out x4 Q4.out; have k5 := KR23.out x4 Q4.out; clear Q4)
    | (go_at_call 9; refine k5.mono ?_; clear k5 p0 p1 p2 p3; rintro e x5 ⟨rfl, Q5⟩; obtain ⟨p0, p1, p2, p3⟩ := KC33.out x5 Q5.out; have k6 := KR33.out x5 Q5.out; clear Q5)
    | (go_at_call 9; refine k6.mono ?_; clear k6 p0 p1 p2 p3; rintro e x6 ⟨rfl, Q6⟩; obtain ⟨p0, p1, p2, p3⟩ := KC23.out x6 Q6.out; have k7 := KN2.out x6 Q6.out; clear Q6)
    | (go_at_call 10; refine k7.mono ?_; clear k7 p0 p1 p2 p3; rintro e x7 ⟨⟨vm7, rfl⟩, Q7⟩; obtain ⟨p0, p1, p2, p3⟩ := KC32.out x7 Q7.out; have k8 := KR32.out x7 Q7.out; clear Q7)
    | (go_at_call 9; refine k8.mono ?_; clear k8 p0 p1 p2 p3; rintro e x8 ⟨rfl, Q8⟩; skip)
    | fail)
  go_ret
  exact ⟨rfl, Q8.out.bel⟩
theorem Tryz.webAnswersWalk (x0 : ByteArray) (b0 : x0.size ≤ 140737488351232) (w : World) (hT : Lib.TabIs Tryz.prog w "internal/strconv.uint64pow10" .u64 Lib.pow10Tab) :
    Calls Tryz.prog 3 #[.string x0] w fun e w' => e = .returned (.bool true) ∧ Below w.heap.size w w' :=
  Tryz.webAnswers_go x0.data.toList b0 hT
end Go.Proofs
