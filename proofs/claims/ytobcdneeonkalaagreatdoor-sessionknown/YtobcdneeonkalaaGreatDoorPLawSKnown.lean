/-
  Laid together by pack.py of LawSKnown.
-/
import Derived.Test.YtobcdneeonkalaaGreatDoorPkF
namespace Go.Proofs
open Go.RowKit Go.Wi Go.Se Go.Ct Go.Dg
theorem Se.xa_ok : (Tk.mk Se.ua 1 15).ok := ⟨by decide, by decide, by decide⟩
/-- The token of the examples. -/
def Se.xa : {x : Tk // x.ok} := ⟨⟨Se.ua, 1, 15⟩, Se.xa_ok⟩
theorem Se.mayK (l g : Int) : Se.Nu.May ⟨10, 2, 3, l, g⟩ := ⟨⟨by show (1 : Int) ≤ 10; decide, by show (10 : Int) ≤ 1000000; decide⟩, ⟨by show (1 : Int) ≤ 2; decide, by show (2 : Int) ≤ 100; decide⟩, by show (1 : Int) ≤ 3; decide, by show (3 : Int) ≤ 1000000; decide⟩
theorem Se.dec0 : (dec (⟨#[]⟩ : ByteArray).toList).1 = some [] := by kernel_rfl
theorem Se.dec4 : (dec (⟨#[65, 65, 65, 65]⟩ : ByteArray).toList).1 = some [0, 0, 0] := by kernel_rfl
set_option maxHeartbeats 16000000 in
set_option maxRecDepth 4000 in
theorem Tryz.sessionKnownWalk (c : Int) (hc : -9223372036854775808 ≤ c ∧ c ≤ 9223372036854775807) (w : World) (hT : Tryz.Tq w) :
    Calls Tryz.prog 4 #[.int .i64 c] w fun e w' => e = .returned (.bool true) ∧ Below w.heap.size w w' := by
  obtain ⟨hc1, hc2⟩ := hc
  have hky := Tryz.lkey_any w
  have hpk := fun W => Tryz.pick_any c 1 (by decide) (by decide) hc1 hc2 W
  have hrt := Tryz.rt_token ⟨Se.ua, 1, 15⟩ (by decide) (by decide) (by decide) (by decide) (by decide) (by decide) Se.key0 (by decide)
  obtain ⟨tx, htx⟩ : ∃ tx, tx = Se.Tk.text ⟨Se.ua, 1, 15⟩ Se.key0 := ⟨_, rfl⟩
  rw [← htx] at hrt
  have hrt' : Tryz.Rt tx Se.key0 (some Se.xa.1) := hrt
  have hr0 := Tryz.rt_short ⟨#[]⟩ [] (by decide) Se.dec0 (by decide) Se.key0
  have hr4 := Tryz.rt_short ⟨#[65, 65, 65, 65]⟩ [0, 0, 0] (by decide) Se.dec4 (by decide) Se.key0
  have HR : Hid _ := hrt'
  have HR0 : Hid _ := hr0
  have HR4 : Hid _ := hr4
  have HT : Hid _ := hT
  have HTX : Hid (tx = Se.Tk.text Se.xa.1 Se.key0) := htx
  have HP : Hid _ := hpk
  clear hrt hrt' hr0 hr4 hT htx hpk hc1 hc2
  go_enter Tryz.func4, Tryz.ntmps4
  go_upto_region 10 with (first
    | (go_at_call 9; refine hky.mono ?_; clear hky; rintro e w1 ⟨g, rfl, hk1, hg1, hb1⟩; have q0 := Tryz.KH.new (w0 := w) HT.out hb1 hk1 (fun k e => by cases e; exact hg1) (by decide) (by decide) 10 2 3 (Se.mayK 0 0); clear hk1 hg1 hb1)
    | (go_at_call 8; refine q0.mono ?_; clear q0; rintro e w2 ⟨kb, rfl, hK2⟩; have q1 : Calls Tryz.prog 11 #[.pointer (some ⟨kb, 0, none⟩), .string Se.ua, .int .i64 5] w2 fun e w' => e = .returned (.tuple #[.string tx, .int .i64 0]) ∧ Tryz.KH w w' kb Se.key0 ⟨10, 2, 3, 5, 1⟩ [(Se.xa, 15)] (some Se.xa) [] [] := (by rw [HTX.out]; exact hK2.issue (by decide) (Se.mayK 0 0) (by decide) (by decide) (by decide) (by decide) Se.ua (by decide) (by decide) 5 (by decide) (by decide) (.inl ⟨rfl, rfl⟩) Se.xa rfl); clear hK2)
    | (go_at_call 11; refine q1.mono ?_; clear q1; rintro e w3 ⟨rfl, hK3⟩; have q2 : Calls Tryz.prog 12 #[.pointer (some ⟨kb, 0, none⟩), .string tx, .int .i64 14] w3 fun e w' => e = .returned (.tuple #[.string ⟨#[64, 97]⟩, .int .i64 0]) ∧ Tryz.KH w w' kb Se.key0 ⟨10, 2, 3, 14, 1⟩ [(Se.xa, 15)] (some Se.xa) [] [] := hK3.good tx 14 (by decide) (by decide) Se.xa (by decide) rfl (by decide) HR.out (.inl ⟨rfl, rfl⟩); clear hK3)
    | (go_at_call 12; refine q2.mono ?_; clear q2; rintro e w4 ⟨rfl, hK4⟩; have q3 := hK4.late tx 15 (by decide) (by decide) Se.xa (by decide) HR.out; clear hK4)
    | (go_at_call 12; refine q3.mono ?_; clear q3; rintro e w5 ⟨rfl, hK5⟩; have q4 : Calls Tryz.prog 12 #[.pointer (some ⟨kb, 0, none⟩), .string tx, .int .i64 0] w5 fun e w' => e = .returned (.tuple #[.string ⟨#[64, 97]⟩, .int .i64 0]) ∧ Tryz.KH w w' kb Se.key0 ⟨10, 2, 3, 14, 1⟩ [(Se.xa, 15)] (some Se.xa) [] [] := hK5.good tx 0 (by decide) (by decide) Se.xa (by decide) rfl (by decide) HR.out (.inl ⟨rfl, rfl⟩); clear hK5)
    | (go_at_call 12; refine q4.mono ?_; clear q4; rintro e w6 ⟨rfl, hK6⟩; have q5 : Calls Tryz.prog 13 #[.pointer (some ⟨kb, 0, none⟩), .string tx, .int .i64 14] w6 fun e w' => e = .returned (.int .i64 0) ∧ Tryz.KH w w' kb Se.key0 ⟨10, 2, 3, 14, 1⟩ [] none [] [] := Tryz.KH.revoke Se.xa hK6 tx 14 (by decide) (by decide) (by decide) (by decide) HR.out (.inl ⟨rfl, rfl⟩); clear hK6)
    | (go_at_call 13; refine q5.mono ?_; clear q5; rintro e w7 ⟨rfl, hK7⟩; have q6 := hK7.gone tx 14 (by decide) (by decide) Se.xa (by decide) rfl HR.out; clear hK7)
    | (go_at_call 12; refine q6.mono ?_; clear q6; rintro e w8 ⟨rfl, hK8⟩)
    | fail)
  go_upto_region 15 with (fail)
  have hA := ((hK8.add #[.int .i64 20, .int .i64 20, .int .i64 20, .int .i64 22, .int .i64 23, .int .i64 24] 3).add #[.bool true, .bool true, .bool false, .bool false, .bool true, .bool false] 4).add #[.int .i64 0, .int .i64 0, .int .i64 3, .int .i64 1, .int .i64 0, .int .i64 2] 3
  simp only [World.size_alloc] at hA
  generalize ((w8.alloc (.cells #[.int .i64 20, .int .i64 20, .int .i64 20, .int .i64 22, .int .i64 23, .int .i64 24] 3)).alloc (.cells #[.bool true, .bool true, .bool false, .bool false, .bool true, .bool false] 4)).alloc (.cells #[.int .i64 0, .int .i64 0, .int .i64 3, .int .i64 1, .int .i64 0, .int .i64 2] 3) = v0 at *
  clear hK8
  generalize w8.heap.size = a1 at *
  go_wp2
  refine wp_loop_rounds 7 ?_
  rw [rounds_succ]
  have n0 : v0.cell? ⟨a1, 0, none⟩ = some (.int .i64 20) := cell_of_row v0 a1 0 _ _ _ (hA.hold _ (.tail _ (.tail _ (.head _))))
  have r0 : Calls Tryz.prog 10 #[.pointer (some ⟨kb, 0, none⟩), .string ⟨#[64, 97]⟩, .int .i64 20] v0 fun e w' => e = .returned (.tuple #[.bool true, .int .i64 0]) ∧ Tryz.KH w w' kb Se.key0 ⟨10, 2, 3, 20, 1⟩ [] none [(Se.ua, 23)] [(a1 + 1 + 1, .cells #[.int .i64 0, .int .i64 0, .int .i64 3, .int .i64 1, .int .i64 0, .int .i64 2] 3 (0, 0)), (a1 + 1, .cells #[.bool true, .bool true, .bool false, .bool false, .bool true, .bool false] 4 (0, 0)), (a1, .cells #[.int .i64 20, .int .i64 20, .int .i64 20, .int .i64 22, .int .i64 23, .int .i64 24] 3 (0, 0))] := hA.yes (Se.mayK _ _) (by decide) (by decide) Se.ua (by decide) (by decide) 20 (by decide) (by decide) (.inl rfl) (.inl ⟨rfl, rfl⟩) (.inl rfl) (by decide) (by decide) (by decide)
  clear hA
  go_wp2_with (first
    | (go_at_call 10; refine r0.mono ?_; clear r0; rintro e v1 ⟨rfl, hK1⟩; have y0 : v1.cell? ⟨a1 + 1, 0, none⟩ = some (.bool true) := cell_of_row v1 (a1 + 1) 0 _ _ _ (hK1.hold _ (.tail _ (.head _))); have z0 : v1.cell? ⟨a1 + 1 + 1, 0, none⟩ = some (.int .i64 0) := cell_of_row v1 (a1 + 1 + 1) 0 _ _ _ (hK1.hold _ (.head _)))
    | fail)
  clear n0 y0 z0
  rw [rounds_succ]
  have n1 : v1.cell? ⟨a1, 1, none⟩ = some (.int .i64 20) := cell_of_row v1 a1 1 _ _ _ (hK1.hold _ (.tail _ (.tail _ (.head _))))
  have r1 : Calls Tryz.prog 10 #[.pointer (some ⟨kb, 0, none⟩), .string ⟨#[64, 97]⟩, .int .i64 20] v1 fun e w' => e = .returned (.tuple #[.bool true, .int .i64 0]) ∧ Tryz.KH w w' kb Se.key0 ⟨10, 2, 3, 20, 1⟩ [] none [(Se.ua, 26)] [(a1 + 1 + 1, .cells #[.int .i64 0, .int .i64 0, .int .i64 3, .int .i64 1, .int .i64 0, .int .i64 2] 3 (0, 0)), (a1 + 1, .cells #[.bool true, .bool true, .bool false, .bool false, .bool true, .bool false] 4 (0, 0)), (a1, .cells #[.int .i64 20, .int .i64 20, .int .i64 20, .int .i64 22, .int .i64 23, .int .i64 24] 3 (0, 0))] := hK1.yes (Se.mayK _ _) (by decide) (by decide) Se.ua (by decide) (by decide) 20 (by decide) (by decide) (.inl rfl) (.inr (.inl ⟨Se.ua, 23, rfl, by decide, rfl⟩)) (.inr ⟨23, rfl⟩) (by decide) (by decide) (by decide)
  clear hK1
  go_wp2_with (first
    | (go_at_call 10; refine r1.mono ?_; clear r1; rintro e v2 ⟨rfl, hK2⟩; have y1 : v2.cell? ⟨a1 + 1, 1, none⟩ = some (.bool true) := cell_of_row v2 (a1 + 1) 1 _ _ _ (hK2.hold _ (.tail _ (.head _))); have z1 : v2.cell? ⟨a1 + 1 + 1, 1, none⟩ = some (.int .i64 0) := cell_of_row v2 (a1 + 1 + 1) 1 _ _ _ (hK2.hold _ (.head _)))
    | fail)
  clear n1 y1 z1
  rw [rounds_succ]
  have n2 : v2.cell? ⟨a1, 2, none⟩ = some (.int .i64 20) := cell_of_row v2 a1 2 _ _ _ (hK2.hold _ (.tail _ (.tail _ (.head _))))
  have r2 : Calls Tryz.prog 10 #[.pointer (some ⟨kb, 0, none⟩), .string ⟨#[64, 97]⟩, .int .i64 20] v2 fun e w' => e = .returned (.tuple #[.bool false, .int .i64 3]) ∧ Tryz.KH w w' kb Se.key0 ⟨10, 2, 3, 20, 1⟩ [] none [(Se.ua, 26)] [(a1 + 1 + 1, .cells #[.int .i64 0, .int .i64 0, .int .i64 3, .int .i64 1, .int .i64 0, .int .i64 2] 3 (0, 0)), (a1 + 1, .cells #[.bool true, .bool true, .bool false, .bool false, .bool true, .bool false] 4 (0, 0)), (a1, .cells #[.int .i64 20, .int .i64 20, .int .i64 20, .int .i64 22, .int .i64 23, .int .i64 24] 3 (0, 0))] := hK2.no (Se.mayK _ _) (by decide) (by decide) Se.ua (by decide) (by decide) 20 (by decide) (by decide) (.inl rfl) (.inr (.inl ⟨Se.ua, 26, rfl, by decide, rfl⟩)) (.inr ⟨26, rfl⟩) (by decide) (by decide) (by decide)
  clear hK2
  go_wp2_with (first
    | (go_at_call 10; refine r2.mono ?_; clear r2; rintro e v3 ⟨rfl, hK3⟩; have y2 : v3.cell? ⟨a1 + 1, 2, none⟩ = some (.bool false) := cell_of_row v3 (a1 + 1) 2 _ _ _ (hK3.hold _ (.tail _ (.head _))); have z2 : v3.cell? ⟨a1 + 1 + 1, 2, none⟩ = some (.int .i64 3) := cell_of_row v3 (a1 + 1 + 1) 2 _ _ _ (hK3.hold _ (.head _)))
    | fail)
  clear n2 y2 z2
  rw [rounds_succ]
  have n3 : v3.cell? ⟨a1, 3, none⟩ = some (.int .i64 22) := cell_of_row v3 a1 3 _ _ _ (hK3.hold _ (.tail _ (.tail _ (.head _))))
  have r3 : Calls Tryz.prog 10 #[.pointer (some ⟨kb, 0, none⟩), .string ⟨#[64, 97]⟩, .int .i64 22] v3 fun e w' => e = .returned (.tuple #[.bool false, .int .i64 1]) ∧ Tryz.KH w w' kb Se.key0 ⟨10, 2, 3, 22, 1⟩ [] none [(Se.ua, 26)] [(a1 + 1 + 1, .cells #[.int .i64 0, .int .i64 0, .int .i64 3, .int .i64 1, .int .i64 0, .int .i64 2] 3 (0, 0)), (a1 + 1, .cells #[.bool true, .bool true, .bool false, .bool false, .bool true, .bool false] 4 (0, 0)), (a1, .cells #[.int .i64 20, .int .i64 20, .int .i64 20, .int .i64 22, .int .i64 23, .int .i64 24] 3 (0, 0))] := hK3.no (Se.mayK _ _) (by decide) (by decide) Se.ua (by decide) (by decide) 22 (by decide) (by decide) (.inl rfl) (.inr (.inl ⟨Se.ua, 26, rfl, by decide, rfl⟩)) (.inr ⟨26, rfl⟩) (by decide) (by decide) (by decide)
  clear hK3
  go_wp2_with (first
    | (go_at_call 10; refine r3.mono ?_; clear r3; rintro e v4 ⟨rfl, hK4⟩; have y3 : v4.cell? ⟨a1 + 1, 3, none⟩ = some (.bool false) := cell_of_row v4 (a1 + 1) 3 _ _ _ (hK4.hold _ (.tail _ (.head _))); have z3 : v4.cell? ⟨a1 + 1 + 1, 3, none⟩ = some (.int .i64 1) := cell_of_row v4 (a1 + 1 + 1) 3 _ _ _ (hK4.hold _ (.head _)))
    | fail)
  clear n3 y3 z3
  rw [rounds_succ]
  have n4 : v4.cell? ⟨a1, 4, none⟩ = some (.int .i64 23) := cell_of_row v4 a1 4 _ _ _ (hK4.hold _ (.tail _ (.tail _ (.head _))))
  have r4 : Calls Tryz.prog 10 #[.pointer (some ⟨kb, 0, none⟩), .string ⟨#[64, 97]⟩, .int .i64 23] v4 fun e w' => e = .returned (.tuple #[.bool true, .int .i64 0]) ∧ Tryz.KH w w' kb Se.key0 ⟨10, 2, 3, 23, 1⟩ [] none [(Se.ua, 29)] [(a1 + 1 + 1, .cells #[.int .i64 0, .int .i64 0, .int .i64 3, .int .i64 1, .int .i64 0, .int .i64 2] 3 (0, 0)), (a1 + 1, .cells #[.bool true, .bool true, .bool false, .bool false, .bool true, .bool false] 4 (0, 0)), (a1, .cells #[.int .i64 20, .int .i64 20, .int .i64 20, .int .i64 22, .int .i64 23, .int .i64 24] 3 (0, 0))] := hK4.yes (Se.mayK _ _) (by decide) (by decide) Se.ua (by decide) (by decide) 23 (by decide) (by decide) (.inl rfl) (.inr (.inl ⟨Se.ua, 26, rfl, by decide, rfl⟩)) (.inr ⟨26, rfl⟩) (by decide) (by decide) (by decide)
  clear hK4
  go_wp2_with (first
    | (go_at_call 10; refine r4.mono ?_; clear r4; rintro e v5 ⟨rfl, hK5⟩; have y4 : v5.cell? ⟨a1 + 1, 4, none⟩ = some (.bool true) := cell_of_row v5 (a1 + 1) 4 _ _ _ (hK5.hold _ (.tail _ (.head _))); have z4 : v5.cell? ⟨a1 + 1 + 1, 4, none⟩ = some (.int .i64 0) := cell_of_row v5 (a1 + 1 + 1) 4 _ _ _ (hK5.hold _ (.head _)))
    | fail)
  clear n4 y4 z4
  rw [rounds_succ]
  have n5 : v5.cell? ⟨a1, 5, none⟩ = some (.int .i64 24) := cell_of_row v5 a1 5 _ _ _ (hK5.hold _ (.tail _ (.tail _ (.head _))))
  have r5 : Calls Tryz.prog 10 #[.pointer (some ⟨kb, 0, none⟩), .string ⟨#[64, 97]⟩, .int .i64 24] v5 fun e w' => e = .returned (.tuple #[.bool false, .int .i64 2]) ∧ Tryz.KH w w' kb Se.key0 ⟨10, 2, 3, 24, 1⟩ [] none [(Se.ua, 29)] [(a1 + 1 + 1, .cells #[.int .i64 0, .int .i64 0, .int .i64 3, .int .i64 1, .int .i64 0, .int .i64 2] 3 (0, 0)), (a1 + 1, .cells #[.bool true, .bool true, .bool false, .bool false, .bool true, .bool false] 4 (0, 0)), (a1, .cells #[.int .i64 20, .int .i64 20, .int .i64 20, .int .i64 22, .int .i64 23, .int .i64 24] 3 (0, 0))] := hK5.no (Se.mayK _ _) (by decide) (by decide) Se.ua (by decide) (by decide) 24 (by decide) (by decide) (.inl rfl) (.inr (.inl ⟨Se.ua, 29, rfl, by decide, rfl⟩)) (.inr ⟨29, rfl⟩) (by decide) (by decide) (by decide)
  clear hK5
  go_wp2_with (first
    | (go_at_call 10; refine r5.mono ?_; clear r5; rintro e v6 ⟨rfl, hK6⟩; have y5 : v6.cell? ⟨a1 + 1, 5, none⟩ = some (.bool false) := cell_of_row v6 (a1 + 1) 5 _ _ _ (hK6.hold _ (.tail _ (.head _))); have z5 : v6.cell? ⟨a1 + 1 + 1, 5, none⟩ = some (.int .i64 2) := cell_of_row v6 (a1 + 1 + 1) 5 _ _ _ (hK6.hold _ (.head _)))
    | fail)
  clear n5 y5 z5
  rw [rounds_succ]
  have HA : Hid _ := hK6
  clear hK6
  have p1 := HA.out.bad ⟨#[]⟩ 24 (by decide) (by decide) HR0.out
  go_wp2_with (first
    | (go_at_call 12; refine p1.mono ?_; clear p1; rintro e w21 ⟨rfl, hK21⟩; have p2 := hK21.bad ⟨#[65, 65, 65, 65]⟩ 24 (by decide) (by decide) HR4.out; clear hK21)
    | (go_at_call 12; refine p2.mono ?_; clear p2; rintro e w22 ⟨rfl, hK22⟩; have p3 := hK22.arg tx (-1) (by decide); clear hK22)
    | (go_at_call 12; refine p3.mono ?_; clear p3; rintro e w23 ⟨rfl, hK23⟩)
    | (go_at_call 7; refine (HP.out _).mono ?_; rintro e w24 ⟨k, hk, rfl, rfl⟩; obtain rfl : k = 0 := (by omega))
    | fail)
  go_ret
  exact ⟨rfl, hK23.bel⟩
end Go.Proofs
