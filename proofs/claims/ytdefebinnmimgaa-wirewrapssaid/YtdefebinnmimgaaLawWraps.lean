/-
  WireWraps: the walk.
-/
import Derived.Test.YtdefebinnmimgaaVn
import Derived.Deep.DeepCutAuto
namespace Go.Wi
theorem wraps_read (n : Int) (x : ByteArray) (h1 : -9223372036854775808 ≤ n) (h2 : n ≤ 9223372036854775807) (hx : x.size ≤ 140737488351232) :
    ∃ (T : List UInt8) (p1 p2 p3 : Nat), ((([] ++ cnt (zig n)) ++ [if true then 1 else 0]) ++ (cnt x.size ++ x.data.toList)) ++ [2] = T ∧ T.length ≤ 140737488355000 ∧
      (Rs.mk T 0 none).int = (n, ⟨T, p1, none⟩) ∧ (Rs.mk T p1 none).flag = (true, ⟨T, p2, none⟩) ∧ (Rs.mk T p2 none).text = (x.data.toList, ⟨T, p3, none⟩) ∧ (Rs.mk T p3 none).fin = false ∧ (Rs.mk T p3 none).flag = (false, ⟨T, p3, some p3⟩) := by
  have hxl : x.data.toList.length = x.size := rfl
  have l1 := cnt_len10 (zig_lt h1 h2)
  have l2 := cnt_len10 (n := x.size) (by omega)
  refine ⟨_, (cnt (zig n)).length, (cnt (zig n)).length + 1, (cnt (zig n)).length + 1 + (cnt x.size).length + x.size, rfl, ?_, ?_, ?_, ?_, ?_, ?_⟩
  · simp only [List.length_append, List.length_nil, List.length_cons, hxl]; omega
  · have := int_read [] ((if true then 1 else 0) :: (cnt x.size ++ x.data.toList ++ [2])) n h1 h2
    simpa using this
  · have := flag_read (cnt (zig n)) (cnt x.size ++ x.data.toList ++ [2]) true
    simpa using this
  · have := text_read (cnt (zig n) ++ [1]) [2] x.data.toList (by rw [hxl]; omega)
    rw [hxl] at this
    simpa [Nat.add_assoc] using this
  · unfold Rs.fin
    simp only [List.length_append, List.length_nil, List.length_cons, hxl]
    simp
    omega
  · have := flag_two (cnt (zig n) ++ [1] ++ (cnt x.size ++ x.data.toList)) []
    have e : (cnt (zig n) ++ [1] ++ (cnt x.size ++ x.data.toList)).length = (cnt (zig n)).length + 1 + (cnt x.size).length + x.size := by
      simp only [List.length_append, List.length_nil, List.length_cons, hxl]; omega
    rw [e] at this
    simpa using this
end Go.Wi
namespace Go.Proofs
open Go.RowKit Go.Wi
set_option maxRecDepth 4000 in
set_option maxHeartbeats 4000000 in
theorem Try.wireWrapsWalk (n : Int) (x : ByteArray) (u : Value) (q : List Wi.Th) (w : World) (hn : -9223372036854775808 ≤ n ∧ n ≤ 9223372036854775807) (hlen : x.size ≤ 140737488351232) (hP : Wi.Things w u q) :
    Calls Try.prog 6 #[.int .i64 n, .string x, u] w fun e w' => e = .returned (.bool true) ∧ Below w.heap.size w w' := by
  have h0 := Try.shown_any w
  obtain ⟨ua, ucap, rfl, hucap, hum, -⟩ := hP.ex
  have hum' : q.length ≤ 9223372036854775807 := Nat.le_trans hucap hum
  obtain ⟨T, p1, p2, p3, hT, hTl, e1, e2, e3, e4, e5⟩ := wraps_read n x hn.1 hn.2 hlen
  have hxx : (ByteArray.mk x.data.toList.toArray) = x := by simp
  obtain ⟨L, hL⟩ : ∃ L : List UInt8, (([] ++ cnt (zig n)) ++ [if true then 1 else 0]) ++ (cnt x.size ++ x.data.toList) = L := ⟨_, rfl⟩
  rw [hL] at hT
  have HL : Hid ((([] ++ cnt (zig n)) ++ [if true then 1 else 0]) ++ (cnt x.size ++ x.data.toList) = L) := hL
  have HT : Hid (L ++ [2] = T) := hT
  have HTl : Hid (T.length ≤ 140737488355000) := hTl
  have Hn : Hid (-9223372036854775808 ≤ n ∧ n ≤ 9223372036854775807) := hn
  have Hl1 : Hid (L.length + 1 ≤ 140737488355000) := (by rw [← hT, List.length_append] at hTl; exact hTl)
  have l1 := cnt_len10 (zig_lt hn.1 hn.2)
  have Hl2 : Hid ((([] ++ cnt (zig n)) ++ [if true then (1 : UInt8) else 0]).length + x.size ≤ 140737488355290) := (by
    show (([] ++ cnt (zig n)) ++ [if true then (1 : UInt8) else 0]).length + x.size ≤ 140737488355290
    simp only [List.length_append, List.length_nil, List.length_cons]; omega)
  have Hl3 : Hid (([] ++ cnt (zig n)).length ≤ 140737488355300) := (by
    show ([] ++ cnt (zig n)).length ≤ 140737488355300
    simp only [List.length_append, List.length_nil]; omega)
  clear l1
  clear hP hum hn hlen hT hTl hL
  go_enter Try.func6, Try.ntmps6
  go_wp2_with (first
    | (go_at_call 9; refine h0.mono ?_; clear h0; rintro e w1 ⟨rfl, hb1⟩; have h1 := Try.WB.new w1)
    | (go_at_call 13; refine h1.mono ?_; clear h1; rintro e w2 ⟨y, rfl, hW2⟩; have h2 := hW2.int n Hn.out.1 Hn.out.2 (by simp))
    | (go_at_call 17; refine h2.mono ?_; clear h2 hW2; rintro e w3 ⟨⟨v3, rfl⟩, hW3⟩; have h3 := hW3.flag true Hl3.out)
    | (go_at_call 19; refine h3.mono ?_; clear h3 hW3; rintro e w4 ⟨⟨v4, rfl⟩, hW4⟩; have h4 := hW4.text x Hl2.out)
    | (go_at_call 21; refine h4.mono ?_; clear h4 hW4; rintro e w5 ⟨⟨v5, rfl⟩, hW5⟩; replace hW5 : Try.WB w1.heap.size w1 w5 y L := (by rw [← HL.out]; exact hW5); have h5 := hW5.bytes (Nat.le_trans (Nat.le_of_succ_le Hl1.out) (by decide)))
    | (go_at_call 22; refine h5.mono ?_; clear h5; rintro e w6 ⟨ad6, cap6, rfl, hown6, hb6⟩)
    | (at_builtin; refine Try.appB rfl _ _ rfl hown6 hb6.size rfl rfl 2 _ (by rfl) (Nat.le_trans Hl1.out (by decide)) ?_; intro ad7 cap7 w7 hbs7 hb7; rw [HT.out] at hbs7 ⊢; have h7 := Try.RB.new hbs7 (Nat.le_trans HTl.out (by decide)))
    | (go_at_call 12; refine h7.mono ?_; clear h7; rintro e w8 ⟨r, rfl, hR8⟩; have h8 := hR8.int; rw [e1] at h8)
    | (go_at_call 15; refine h8.mono ?_; clear h8; rintro e w9 ⟨rfl, hR9⟩; have h9 := hR9.flag; rw [e2] at h9)
    | (go_at_call 18; refine h9.mono ?_; clear h9; rintro e w10 ⟨rfl, hR10⟩; have h10 := hR10.text; rw [e3] at h10; simp only at h10)
    | (go_at_call 20; refine h10.mono ?_; clear h10; rintro e w11 ⟨rfl, hR11⟩; have h11 := hR11.errNone rfl; have h12 := hR11.fin; rw [e4] at h12)
    | (go_at_call 16; refine h11.mono ?_; clear h11; rintro e w12 ⟨rfl, rfl⟩)
    | (go_at_call 23; refine h12.mono ?_; clear h12; rintro e w13 ⟨rfl, hR13⟩; have h13 := hR13.flag; rw [e5] at h13)
    | (go_at_call 18; refine h13.mono ?_; clear h13; rintro e w14 ⟨rfl, hR14⟩; have h14 := Try.RB.errSome (a := p3) hR14 rfl)
    | (go_at_call 16; refine h14.mono ?_; clear h14; rintro e w15 ⟨z, rfl, hz15, hR15⟩)
    | fail)
  have HR15 : Hid (Try.RB w7.heap.size w7 w15 r ⟨T, p3, some p3⟩) := hR15
  have HB7 : Hid (Below w.heap.size w w7 ∧ w.heap.size ≤ w7.heap.size) := (by
    have q1 : w.heap.size ≤ w5.heap.size := Nat.le_trans hb1.size hW5.le
    exact ⟨((hb1.trans (hW5.bel.mono hb1.size)).trans (hb6.mono q1)).trans (hb7.mono q1), Nat.le_trans (Nat.le_trans q1 hb6.size) hb7.size⟩)
  clear hR15 hR14 hR13 hR11 hR10 hR9 hR8 hbs7 hown6 hb6 hb7 hW5 hz15 e1 e2 e3 e4 e5 HT HL Hl1 Hl2 Hl3 hxx
  have f1 : (Rs.mk T p3 (some p3)).int = (0, ⟨T, p3, some p3⟩) := by
    unfold Rs.int
    rw [cnt_bad (s := ⟨T, p3, some p3⟩) rfl]
    simp [unzig]
  have f2 : (Rs.mk T p3 (some p3)).flag = (false, ⟨T, p3, some p3⟩) := by simp only [Rs.flag]
  have f3 : (Rs.mk T p3 (some p3)).text = ([], ⟨T, p3, some p3⟩) := by
    unfold Rs.text
    rw [cnt_bad (s := ⟨T, p3, some p3⟩) rfl]
    simp
  have f4 : (Rs.mk T p3 (some p3)).fin = false := rfl
  go_loopw [18, 19, 20, 21, 22] (fun i _ _ _ _ wr => ∃ k : Nat, k ≤ q.length ∧ i = .int .i64 k ∧ Try.RB w7.heap.size w7 wr r ⟨T, p3, some p3⟩) (fun i _ _ _ _ _ => q.length - (intOf i).toNat)
  case atStart => exact ⟨0, Nat.zero_le _, rfl, HR15.out⟩
  case round =>
    obtain ⟨k, hk, rfl, hR⟩ := hrel
    by_cases hkq : k < q.length
    · have q0 : (k : Int) < (q.length : Int) := by omega
      have h8 := hR.int
      rw [f1] at h8
      go_wp2_with (first
        | (go_at_call 15; refine h8.mono ?_; clear h8; rintro e w9 ⟨rfl, hR9⟩; have h9 := hR9.flag; rw [f2] at h9)
        | (go_at_call 18; refine h9.mono ?_; clear h9; rintro e w10 ⟨rfl, hR10⟩; have h10 := hR10.text; rw [f3] at h10)
        | (go_at_call 20; refine h10.mono ?_; clear h10; rintro e w11 ⟨rfl, hR11⟩; have h12 := hR11.fin; rw [f4] at h12)
        | (go_at_call 23; refine h12.mono ?_; clear h12; rintro e w13 ⟨rfl, hR13⟩)
        | fail)
      go_roundw
      case rel => exact ⟨k + 1, by omega, by go_num, hR13⟩
      case measure => simp [intOf]; omega
    · have q0 : ¬ (k : Int) < (q.length : Int) := by omega
      have h8 := Try.RB.errSome (a := p3) hR rfl
      go_wp2_with (first
        | (go_at_call 16; refine h8.mono ?_; clear h8; rintro e w15 ⟨z, rfl, hz15, hR15⟩; have h9 := Try.is_fault z p3 w15 hz15)
        | (go_at_call 37; refine h9.mono ?_; clear h9; rintro e w16 ⟨rfl, rfl⟩; have h12 := hR15.fin; rw [f4] at h12)
        | (go_at_call 23; refine h12.mono ?_; clear h12; rintro e w13 ⟨rfl, hR13⟩)
        | fail)
      go_ret
      exact ⟨rfl, HB7.out.1.trans (hR13.bel.mono HB7.out.2)⟩
end Go.Proofs
