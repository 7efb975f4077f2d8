/-
  Laid together by pack.py of Sal Sam San.
-/
import Derived.Test.YtlfiebapfgpchaaGreatDoorPkK
import Derived.Test.YtlfiebapfgpchaaGreatDoorPkB
import Derived.Test.YtlfiebapfgpchaaGreatDoorPkR
import Derived.Test.YtlfiebapfgpchaaGreatDoorPSae
namespace Go.Proofs
open Go.RowKit Go.Wi Go.Se Go.Ct
set_option maxHeartbeats 4000000 in
set_option maxRecDepth 4000 in
theorem Tryz.mayBe_no {w : World} {own : Nat → Prop} {kb : Nat} {key : List UInt8} {n : Nu} {L : List ({x : Tk // x.ok} × Int)} {o : Option {x : Tk // x.ok}} {D : List (ByteArray × Int)} (h : Tryz.Kp w own kb key n L o D) (hm : ¬ Se.Nu.May n) :
    Calls Tryz.prog 19 #[.pointer (some ⟨kb, 0, none⟩)] w fun e w' => e = .returned (.bool false) ∧ w' = w := by
  obtain ⟨V, pb, db, ok, op, od, h1, h2, h3, h4, h5, h6, h7, h8⟩ := h.ex
  have c1 : w.cell? ⟨kb, 1, none⟩ = some (.int .i64 n.life) := cell_of_row w kb 1 _ _ _ h1
  have c2 : w.cell? ⟨kb, 2, none⟩ = some (.int .i64 n.burst) := cell_of_row w kb 2 _ _ _ h1
  have c3 : w.cell? ⟨kb, 3, none⟩ = some (.int .i64 n.rate) := cell_of_row w kb 3 _ _ _ h1
  have q1 := Tryz.within_any n.life 1 1000000 w
  have q2 := Tryz.within_any n.burst 1 100 w
  have q3 := Tryz.within_any n.rate 1 1000000 w
  have hm' : ¬ ((1 ≤ n.life ∧ n.life ≤ 1000000) ∧ (1 ≤ n.burst ∧ n.burst ≤ 100) ∧ (1 ≤ n.rate ∧ n.rate ≤ 1000000)) := hm
  clear h h1 h2 h3 h4 h5 h6 h7 h8 hm
  generalize n.life = a at *
  generalize n.burst = b at *
  generalize n.rate = c at *
  by_cases m1 : 1 ≤ a ∧ a ≤ 1000000
  · rw [Se.dec2 m1.1 m1.2] at q1
    by_cases m2 : 1 ≤ b ∧ b ≤ 100
    · rw [Se.dec2 m2.1 m2.2] at q2
      have m3 : ¬ (1 ≤ c ∧ c ≤ 1000000) := fun e => hm' ⟨m1, m2, e⟩
      rw [Se.dec2n m3] at q3
      clear hm' m1 m2 m3
      go_enter Tryz.func19, Tryz.ntmps19
      go_wp2_with (first
        | (go_at_call_of 42 (Value.int IntKind.i64 a); refine q1.mono ?_; clear q1; rintro e w1 ⟨rfl, rfl⟩)
        | (go_at_call_of 42 (Value.int IntKind.i64 b); refine q2.mono ?_; clear q2; rintro e w1 ⟨rfl, rfl⟩)
        | (go_at_call_of 42 (Value.int IntKind.i64 c); refine q3.mono ?_; clear q3; rintro e w1 ⟨rfl, rfl⟩)
        | fail)
      go_ret
      exact ⟨rfl, rfl⟩
    · rw [Se.dec2n m2] at q2
      clear hm' m1 m2 q3
      go_enter Tryz.func19, Tryz.ntmps19
      go_wp2_with (first
        | (go_at_call_of 42 (Value.int IntKind.i64 a); refine q1.mono ?_; clear q1; rintro e w1 ⟨rfl, rfl⟩)
        | (go_at_call_of 42 (Value.int IntKind.i64 b); refine q2.mono ?_; clear q2; rintro e w1 ⟨rfl, rfl⟩)
        | fail)
      go_ret
      exact ⟨rfl, rfl⟩
  · rw [Se.dec2n m1] at q1
    clear hm' m1 q2 q3
    go_enter Tryz.func19, Tryz.ntmps19
    go_wp2_with (first
      | (go_at_call_of 42 (Value.int IntKind.i64 a); refine q1.mono ?_; clear q1; rintro e w1 ⟨rfl, rfl⟩)
      | fail)
    go_ret
    exact ⟨rfl, rfl⟩
set_option maxHeartbeats 4000000 in
set_option maxRecDepth 4000 in
theorem Tryz.new_no {w : World} {V : Value} {key : List UInt8} (h : Bs w V key) (hv : ∀ k, V.ownBlock = some k → k < w.heap.size) (hlen : key.length ≤ 140737488355328) (a b c : Int) (hm : ¬ ((16 ≤ key.length ∧ key.length ≤ 64) ∧ Se.Nu.May ⟨a, b, c, 0, 0⟩)) :
    Calls Tryz.prog 8 #[V, .int .i64 a, .int .i64 b, .int .i64 c] w fun e w' => e = .returned (.tuple #[.pointer none, .int .i64 1]) ∧ Below w.heap.size w w' := by
  have hwk := Tryz.withKey_any h hv hlen
  obtain ⟨ad, cap, rfl, _⟩ := h.ex
  have hik := fun W => Tryz.isKey_any ad key.length cap W
  by_cases hk : 16 ≤ key.length ∧ key.length ≤ 64
  · have hm1 : ¬ Se.Nu.May ⟨a, b, c, 0, 0⟩ := fun e => hm ⟨hk, e⟩
    rw [Se.dec2 (by omega) (by omega)] at hik
    have HM : Hid (¬ Se.Nu.May ⟨a, b, c, 0, 0⟩) := hm1
    clear h hv hk hm hm1 hlen
    generalize hN : key.length = N at hwk hik ⊢
    go_enter Tryz.func8, Tryz.ntmps8
    go_upto_region 2 with (first
      | (go_at_call 17; refine hwk.mono ?_; clear hwk; rintro e w1 ⟨kb, rfl, hK1, hb1⟩)
      | fail)
    obtain ⟨V1, pb, db, hc1⟩ := hK1.cells
    have hK2 := hK1.set (n' := ⟨a, 0, 0, 0, 0⟩) 1 (.int .i64 a) (fun _ _ _ => rfl)
    have hK3 := hK2.set (n' := ⟨a, b, 0, 0, 0⟩) 2 (.int .i64 b) (fun _ _ _ => rfl)
    have hK4 := hK3.set (n' := ⟨a, b, c, 0, 0⟩) 3 (.int .i64 c) (fun _ _ _ => rfl)
    have hb4 : Below w.heap.size w (((w1.setCell ⟨kb, 1, none⟩ (.int .i64 a)).setCell ⟨kb, 2, none⟩ (.int .i64 b)).setCell ⟨kb, 3, none⟩ (.int .i64 c)) := Se.belowS (Se.belowS (Se.belowS hb1 kb 1 _ hK1.okb.1) kb 2 _ hK1.okb.1) kb 3 _ hK1.okb.1
    have c1 : w1.cell? ⟨kb, 1, none⟩ = some (.int .i64 0) := cell_of_row w1 kb 1 _ _ _ hc1
    have c2 : w1.cell? ⟨kb, 2, none⟩ = some (.int .i64 0) := cell_of_row w1 kb 2 _ _ _ hc1
    have c3 : w1.cell? ⟨kb, 3, none⟩ = some (.int .i64 0) := cell_of_row w1 kb 3 _ _ _ hc1
    have f1 := frozen_of_row w1 kb 1 _ _ hc1
    have f2 := frozen_of_row w1 kb 2 _ _ hc1
    have f3 := frozen_of_row w1 kb 3 _ _ hc1
    have hmb := Tryz.mayBe_no hK4 HM.out
    go_wp2_with (first
      | (go_at_call 18; refine (hik _).mono ?_; clear hik; rintro e w2 ⟨rfl, rfl⟩)
      | (go_at_call 19; refine hmb.mono ?_; clear hmb; rintro e w3 ⟨rfl, rfl⟩)
      | fail)
    go_ret2
    exact ⟨rfl, hb4⟩
  · rw [Se.dec2n (by omega)] at hik
    clear h hv hk hm hlen
    generalize hN : key.length = N at hwk hik ⊢
    go_enter Tryz.func8, Tryz.ntmps8
    go_upto_region 2 with (first
      | (go_at_call 17; refine hwk.mono ?_; clear hwk; rintro e w1 ⟨kb, rfl, hK1, hb1⟩)
      | fail)
    obtain ⟨V1, pb, db, hc1⟩ := hK1.cells
    have hb4 : Below w.heap.size w (((w1.setCell ⟨kb, 1, none⟩ (.int .i64 a)).setCell ⟨kb, 2, none⟩ (.int .i64 b)).setCell ⟨kb, 3, none⟩ (.int .i64 c)) := Se.belowS (Se.belowS (Se.belowS hb1 kb 1 _ hK1.okb.1) kb 2 _ hK1.okb.1) kb 3 _ hK1.okb.1
    have c1 : w1.cell? ⟨kb, 1, none⟩ = some (.int .i64 0) := cell_of_row w1 kb 1 _ _ _ hc1
    have c2 : w1.cell? ⟨kb, 2, none⟩ = some (.int .i64 0) := cell_of_row w1 kb 2 _ _ _ hc1
    have c3 : w1.cell? ⟨kb, 3, none⟩ = some (.int .i64 0) := cell_of_row w1 kb 3 _ _ _ hc1
    have f1 := frozen_of_row w1 kb 1 _ _ hc1
    have f2 := frozen_of_row w1 kb 2 _ _ hc1
    have f3 := frozen_of_row w1 kb 3 _ _ hc1
    go_wp2_with (first
      | (go_at_call 18; refine (hik _).mono ?_; clear hik; rintro e w2 ⟨rfl, rfl⟩)
      | fail)
    go_ret2
    exact ⟨rfl, hb4⟩
end Go.Proofs
namespace Go.Proofs
open Go.RowKit Go.Wi Go.Se Go.Ct Go.Dg
theorem Tryz.infoT3 : (Tryz.prog.info? 43).map (fun i => (i.zero, i.size, i.bytes)) = some (some (.agg #[.int .i64 0, .string ⟨#[]⟩, .int .i64 0]), 3, 32) := by kernel_rfl
theorem Tryz.step3 {ops : Array Oper} {o : Oper} {a : Act} {K : Act → World → Prop} {Q : Exit → Act → World → Prop} {E : Prop} (hgd : o.guard = none) (s y : Operand)
    (ho : o.op = .call { callee := .builtin .append, args := #[s, y], argTypes := #[67, 67] })
    {w : World} {n t : Int} {u : ByteArray} {g0 : Nat} (hs : a.eval s = .slice none 0 0) (hy : a.eval y = .slice (some ⟨g0, 0, none⟩) 1 1) (hnb : w.heap[g0]? = some (.cells #[.int .i64 n, .string u, .int .i64 t] 43 (0, 0)))
    (hK : ∀ ad m cap w1, Below w.heap.size w w1 → K (a.put o.dst (.slice ad m cap)) w1) :
    if Region.wanted o (yielded ops a.tmps) = true then Oper.wp Tryz.prog o a w K Q else E := by
  have hw : Region.wanted o (yielded ops a.tmps) = true := by simp [Region.wanted, hgd]
  rw [if_pos hw]
  obtain ⟨i0, hi0, hz0, hz1, hz2⟩ := info_parts Tryz.infoT3
  obtain ⟨v', w', hrun, r1, r2, _⟩ := run_append_own (P := Tryz.prog) w w.heap.size 67 o.type 43 i0 _ 3 32 Tryz.underlying67 hi0 hz0 hz1 hz2 rfl (by omega) (.slice none 0 0) 0 [] (World.ownsRow_nil w _ _ _) ⟨g0, 0, none⟩ 1 1 [.int .i64 n, .string u, .int .i64 t] rfl (World.news_of_block (cs := #[.int .i64 n, .string u, .int .i64 t]) hnb) (fun v hv => by simp at hv; rcases hv with rfl | rfl | rfl <;> rfl) (by unfold maxLen; omega) (by omega) (Nat.le_refl _)
  have hv : ∃ ad m cap, v' = .slice ad m cap := by
    rcases r1.2 with ⟨e, _⟩ | ⟨g, cap, cur, e, _⟩
    · exact ⟨_, _, _, e⟩
    · exact ⟨_, _, _, e⟩
  obtain ⟨ad, m, cap, rfl⟩ := hv
  unfold Oper.wp
  simp [execOp, ho, resolve, invoke, builtin, hs, hy, hrun, Result.andThen]
  exact hK ad m cap w' ((Below.refl _ w).grown r2 (Nat.le_refl _) fun k e => by cases e)
set_option maxHeartbeats 1000000 in
theorem Tryz.rTime_any {w : World} {kb : Nat} {key : ByteArray} {a b c l g : Int} {tv dv : Value} (h : Tryz.Rk w kb key a b c l g tv dv) (now : Int) :
    Calls Tryz.prog 33 #[.pointer (some ⟨kb, 0, none⟩), .int .i64 now] w fun e w' => e = .returned (.int .i64 (max now l)) ∧ w' = w := by
  have c4 : w.cell? ⟨kb, 4, none⟩ = some (.int .i64 l) := cell_of_row w kb 4 _ _ _ h
  clear h
  go_enter Tryz.func33, Tryz.ntmps33
  go_wp2
  go_ret
  exact ⟨rfl, rfl⟩
set_option maxHeartbeats 4000000 in
set_option maxRecDepth 4000 in
theorem Tryz.rIssue_first {w : World} {kb : Nat} {key : ByteArray} {a b c : Int} {dv : Value} (h : Tryz.Rk w kb key a b c 0 0 (.slice none 0 0) dv) (hk : key.size ≤ 64) (ha1 : 1 ≤ a) (ha2 : a ≤ 1000000) (u : ByteArray) (hu1 : 1 ≤ u.size) (hu2 : u.size ≤ 60) :
    Calls Tryz.prog 15 #[.pointer (some ⟨kb, 0, none⟩), .string u, .int .i64 0] w fun e w' => e = .returned (.tuple #[.string (Se.Tk.text ⟨u, 1, a⟩ key.toList), .int .i64 0]) ∧ Wo (fun k => k = kb) w w' := by
  have hiu := Tryz.rIsUser_any u hu1 hu2 w
  have hit := Tryz.rMay_any 0 (by omega) (by omega) w
  have htm := Tryz.rTime_any h 0
  have c5 : w.cell? ⟨kb, 5, none⟩ = some (.int .i64 0) := cell_of_row w kb 5 _ _ _ h
  have c4 : w.cell? ⟨kb, 4, none⟩ = some (.int .i64 0) := cell_of_row w kb 4 _ _ _ h
  have f4 := frozen_of_row w kb 4 _ _ h
  have f5 := frozen_of_row w kb 5 _ _ h
  have h1 := heap_setCell_same w kb 4 _ _ (.int .i64 0) h
  have h2 := heap_setCell_same _ kb 5 _ _ (.int .i64 1) h1
  have hwo : Wo (fun k => k = kb) w ((w.setCell ⟨kb, 4, none⟩ (.int .i64 0)).setCell ⟨kb, 5, none⟩ (.int .i64 1)) := ((Wo.refl (fun k => k = kb) w).setCell kb 4 _ (.inl rfl)).setCell kb 5 _ (.inl rfl)
  have HK : Hid _ := hk
  have HU : Hid _ := hu2
  clear h hk hu1 hu2
  go_enter Tryz.func15, Tryz.ntmps15
  go_upto_region 9 with (first
    | (go_at_call 31; refine hiu.mono ?_; clear hiu; rintro e w1 ⟨rfl, hw⟩; subst hw)
    | (go_at_call 32; refine hit.mono ?_; clear hit; rintro e w1 ⟨rfl, hw⟩; subst hw)
    | (go_at_call 33; refine htm.mono ?_; clear htm; rintro e w1 ⟨rfl, hw⟩; subst hw)
    | fail)
  generalize hW3 : (w1.setCell ⟨kb, 4, none⟩ (.int .i64 0)).setCell ⟨kb, 5, none⟩ (.int .i64 1) = W3 at *
  have h3 : W3.heap[kb]? = some (.cells #[.string key, .int .i64 a, .int .i64 b, .int .i64 c, .int .i64 0, .int .i64 1, .slice none 0 0, dv] 70 (0, 0)) := h2
  have e5 : W3.cell? ⟨kb, 5, none⟩ = some (.int .i64 1) := cell_of_row W3 kb 5 _ _ _ h3
  have e4 : W3.cell? ⟨kb, 4, none⟩ = some (.int .i64 0) := cell_of_row W3 kb 4 _ _ _ h3
  have e1 : W3.cell? ⟨kb, 1, none⟩ = some (.int .i64 a) := cell_of_row W3 kb 1 _ _ _ h3
  have hkl3 : kb < W3.heap.size := block_lt h3
  have hal : ∀ o : Obj, (W3.alloc o).cell? ⟨kb, 5, none⟩ = some (.int .i64 1) ∧ (W3.alloc o).cell? ⟨kb, 4, none⟩ = some (.int .i64 0) ∧ (W3.alloc o).cell? ⟨kb, 1, none⟩ = some (.int .i64 a) := fun o => ⟨(World.cell?_of_block (a := ⟨kb, 5, none⟩) (Ct.alloc_old o hkl3)).trans e5, (World.cell?_of_block (a := ⟨kb, 4, none⟩) (Ct.alloc_old o hkl3)).trans e4, (World.cell?_of_block (a := ⟨kb, 1, none⟩) (Ct.alloc_old o hkl3)).trans e1⟩
  have kw := Se.wrap_in a (by omega) (by omega)
  clear hW3 h1 h2 c4 c5 f4 f5
  go_region_held3 (fun W => W.cell? ⟨kb, 5, none⟩ = some (.int .i64 1) ∧ W.cell? ⟨kb, 4, none⟩ = some (.int .i64 0) ∧ W.cell? ⟨kb, 1, none⟩ = some (.int .i64 a)) (first | exact ⟨e5, e4, e1⟩ | exact hal _ | go_keep) (fail)
  have hb4 : Below W3.heap.size W3 (W3.alloc (.cells #[.int .i64 1, .string u, .int .i64 a] 43)).drew := ((Below.refl _ W3).alloc (Nat.le_refl _) _).drew
  have hn4 : (W3.alloc (.cells #[.int .i64 1, .string u, .int .i64 a] 43)).drew.heap[W3.heap.size]? = some (.cells #[.int .i64 1, .string u, .int .i64 a] 43 (0, 0)) := heap_alloc_new W3 _
  have hwo4 : Wo (fun k => k = kb) w1 (W3.alloc (.cells #[.int .i64 1, .string u, .int .i64 a] 43)).drew := hwo.below hb4 hwo.size
  generalize (W3.alloc (.cells #[.int .i64 1, .string u, .int .i64 a] 43)).drew = W4 at *
  have h4 : W4.heap[kb]? = _ := (hb4.block kb hkl3).trans h3
  have s6 : W4.cell? ⟨kb, 6, none⟩ = some (.slice none 0 0) := cell_of_row W4 kb 6 _ _ _ h4
  have s0 : W4.cell? ⟨W3.heap.size, 0, none⟩ = some (.int .i64 1) := cell_of_row W4 _ 0 _ _ _ hn4
  have s1 : W4.cell? ⟨W3.heap.size, 1, none⟩ = some (.string u) := cell_of_row W4 _ 1 _ _ _ hn4
  have s2 : W4.cell? ⟨W3.heap.size, 2, none⟩ = some (.int .i64 a) := cell_of_row W4 _ 2 _ _ _ hn4
  have hk4 : kb < W4.heap.size := block_lt h4
  have hal6 : ∀ o : Obj, (W4.alloc o).cell? ⟨kb, 6, none⟩ = some (.slice none 0 0) := fun o => (World.cell?_of_block (a := ⟨kb, 6, none⟩) (Ct.alloc_old o hk4)).trans s6
  have HB5 : Hid (∀ (o : Obj) (W5 : World), Below (W4.alloc o).drew.heap.size (W4.alloc o).drew W5 → W5.cell? ⟨kb, 6, none⟩ = some (.slice none 0 0) ∧ W5.frozen? ⟨kb, 6, none⟩ = false ∧ Below W4.heap.size W4 W5) := fun o W5 hb => by
    have hb1 : Below W4.heap.size W4 W5 := ((Below.refl _ W4).alloc (Nat.le_refl _) o).drew.trans (hb.mono (by show W4.heap.size ≤ (W4.alloc o).heap.size; simp))
    have h5 := (hb1.block kb hk4).trans h4
    exact ⟨cell_of_row W5 kb 6 _ _ _ h5, frozen_of_row W5 kb 6 _ _ h5, hb1⟩
  have H4 : Hid _ := h4
  have HN4 : Hid _ := hn4
  have HT : Hid (W3.heap.size ≠ kb) := (by omega : W3.heap.size ≠ kb)
  have HL : Hid (kb < W4.heap.size ∧ W3.heap.size < W4.heap.size) := ⟨hk4, block_lt hn4⟩
  clear hal hb4 h3 e5 e4 e1 kw hwo h4 hn4 hkl3 hk4
  generalize W3.heap.size = tb at *
  go_wp2
  go_region_law (first
    | (refine Tryz.step3 (by rfl) (.tmp 58) (.tmp 60) (by rfl) (w := (W4.alloc (.cells #[.int .i64 1, .string u, .int .i64 a] 43)).drew) (n := 1) (t := a) (u := u) (g0 := W4.heap.size) (by rfl) (by rfl) (heap_alloc_new W4 _) ?_; intro ad5 m5 cap5 W5 hb5; obtain ⟨g6, f6, hb5'⟩ := HB5.out _ _ hb5; have HB6 : Hid _ := hb5'; clear hb5 hb5')
    | fail)
  all_goals
    have h5 : W5.heap[kb]? = _ := (HB6.out.block kb HL.out.1).trans H4.out
    have hn5 : W5.heap[tb]? = _ := (HB6.out.block tb HL.out.2).trans HN4.out
    have h6 := heap_setCell_same W5 kb 6 _ _ (.slice ad5 m5 cap5) h5
    have hn6 : (W5.setCell ⟨kb, 6, none⟩ (.slice ad5 m5 cap5)).heap[tb]? = _ := (Below.heap_setCell W5 ⟨kb, 6, none⟩ _ tb (fun e => HT.out (by simpa using e))).trans hn5
    have hwo6 : Wo (fun k => k = kb) w1 (W5.setCell ⟨kb, 6, none⟩ (.slice ad5 m5 cap5)) := (hwo4.below HB6.out hwo4.size).setCell kb 6 _ (.inl rfl)
    generalize W5.setCell ⟨kb, 6, none⟩ (.slice ad5 m5 cap5) = W6 at *
    clear h5 hn5 g6 f6 s6 s0 s1 s2 hal6 HB5 H4 HN4 HB6
    have t0 : W6.cell? ⟨tb, 0, none⟩ = some (.int .i64 1) := cell_of_row W6 _ 0 _ _ _ hn6
    have t1 : W6.cell? ⟨tb, 1, none⟩ = some (.string u) := cell_of_row W6 _ 1 _ _ _ hn6
    have t2 : W6.cell? ⟨tb, 2, none⟩ = some (.int .i64 a) := cell_of_row W6 _ 2 _ _ _ hn6
    have q := Tryz.rTokText_any (w := W6) (kb := kb) (key := key) (a := a) (b := b) (c := c) (l := 0) (g := 1) (tv := .slice ad5 m5 cap5) (dv := dv) h6 HK.out ⟨u, 1, a⟩ HU.out (by show (0 : Int) ≤ 1; omega) (by show (1 : Int) ≤ 9223372036854775807; omega) (by show 0 ≤ a; omega) (by show a ≤ 9223372036854775807; omega)
    clear h6 hn6
    go_wp2_with (first
      | (go_at_call 16; refine q.mono ?_; clear q; rintro e W7 ⟨rfl, hb7⟩)
      | fail)
    go_ret2
    exact ⟨rfl, hwo6.below hb7 hwo6.size⟩
end Go.Proofs
namespace Go.Proofs
open Go.RowKit Go.Wi Go.Se Go.Ct Go.Dg
/-- What another one wrote in blocks of its own leaves a keeper as it was. -/
theorem Tryz.Kp.past {w w' : World} {own S : Nat → Prop} {kb : Nat} {key : List UInt8} {n : Nu} {L : List ({x : Tk // x.ok} × Int)} {o : Option {x : Tk // x.ok}} {D : List (ByteArray × Int)} (h : Tryz.Kp w own kb key n L o D) (g : Wo S w w') (hS : ∀ k, S k → ¬ own k) : Tryz.Kp w' own kb key n L o D :=
  h.keep (fun k e => g.block k (h.lt k e) fun s => hS k s e) g.size
theorem Tryz.Rk.past {w w' : World} {S : Nat → Prop} {kb : Nat} {key : ByteArray} {a b c l g : Int} {tv dv : Value} (h : Tryz.Rk w kb key a b c l g tv dv) (hw : Wo S w w') (hS : ¬ S kb) : Tryz.Rk w' kb key a b c l g tv dv :=
  (hw.block kb (block_lt h) hS).trans h
/-- The law's 'good', told one by one. -/
theorem Se.bad8 {n : Nat} {a b c : Int} (h : ¬ ((16 ≤ n ∧ n ≤ 64) ∧ Se.Nu.May ⟨a, b, c, 0, 0⟩)) :
    (¬ 16 ≤ (n : Int)) ∨ (16 ≤ (n : Int) ∧ ¬ (n : Int) ≤ 64) ∨ ((16 ≤ (n : Int) ∧ (n : Int) ≤ 64) ∧ ¬ 1 ≤ a) ∨ ((16 ≤ (n : Int) ∧ (n : Int) ≤ 64) ∧ 1 ≤ a ∧ ¬ a ≤ 1000000) ∨ ((16 ≤ (n : Int) ∧ (n : Int) ≤ 64) ∧ (1 ≤ a ∧ a ≤ 1000000) ∧ ¬ 1 ≤ b) ∨ ((16 ≤ (n : Int) ∧ (n : Int) ≤ 64) ∧ (1 ≤ a ∧ a ≤ 1000000) ∧ 1 ≤ b ∧ ¬ b ≤ 100) ∨ ((16 ≤ (n : Int) ∧ (n : Int) ≤ 64) ∧ (1 ≤ a ∧ a ≤ 1000000) ∧ (1 ≤ b ∧ b ≤ 100) ∧ ¬ 1 ≤ c) ∨ ((16 ≤ (n : Int) ∧ (n : Int) ≤ 64) ∧ (1 ≤ a ∧ a ≤ 1000000) ∧ (1 ≤ b ∧ b ≤ 100) ∧ 1 ≤ c ∧ ¬ c ≤ 1000000) := by
  have h' : ¬ ((16 ≤ n ∧ n ≤ 64) ∧ (1 ≤ a ∧ a ≤ 1000000) ∧ (1 ≤ b ∧ b ≤ 100) ∧ (1 ≤ c ∧ c ≤ 1000000)) := h
  omega
set_option maxHeartbeats 16000000 in
set_option maxRecDepth 4000 in
theorem Tryz.keys_not {w : World} {VA VB : Value} {la : List UInt8} (hA : Bs w VA la) (hvA : ∀ k, VA.ownBlock = some k → k < w.heap.size) (hlA : la.length ≤ 140737488355328) (a b c : Int) (hbad : ¬ ((16 ≤ la.length ∧ la.length ≤ 64) ∧ Se.Nu.May ⟨a, b, c, 0, 0⟩)) (hT : Tryz.Tq w) :
    Calls Tryz.prog 5 #[VA, VB, .int .i64 a, .int .i64 b, .int .i64 c] w fun e w' => e = .returned (.bool true) ∧ Below w.heap.size w w' := by
  have haw := Tryz.awake_any w hT
  have HN : Hid (∀ W, Below w.heap.size w W → Calls Tryz.prog 8 #[VA, .int .i64 a, .int .i64 b, .int .i64 c] W fun e w' => e = .returned (.tuple #[.pointer none, .int .i64 1]) ∧ Below W.heap.size W w') := fun W hb => Tryz.new_no (hA.below hb hvA) (fun k e => Nat.lt_of_lt_of_le (hvA k e) hb.size) hlA a b c hbad
  obtain ⟨ad, cap, rfl, _⟩ := hA.ex
  have h8 := Se.bad8 hbad
  clear hA hvA hlA hbad hT
  generalize la.length = n at *
  rcases h8 with m | ⟨m1, m⟩ | ⟨⟨m1, m2⟩, m⟩ | ⟨⟨m1, m2⟩, m3, m⟩ | ⟨⟨m1, m2⟩, ⟨m3, m4⟩, m⟩ | ⟨⟨m1, m2⟩, ⟨m3, m4⟩, m5, m⟩ | ⟨⟨m1, m2⟩, ⟨m3, m4⟩, ⟨m5, m6⟩, m⟩ | ⟨⟨m1, m2⟩, ⟨m3, m4⟩, ⟨m5, m6⟩, m7, m⟩
  all_goals
    first | (have q9 : decide (c ≤ 1000000) = false := (by simp; omega)) | skip
    go_enter Tryz.func5, Tryz.ntmps5
    go_wp2_with (first
      | (go_at_call 6; refine haw.mono ?_; clear haw; rintro e w1 ⟨rfl, hb1⟩; have q := HN.out w1 hb1)
      | (go_at_call 8; refine q.mono ?_; clear q; rintro e w2 ⟨rfl, hb2⟩)
      | fail)
    go_ret
    exact ⟨rfl, hb1.trans (hb2.mono hb1.size)⟩
end Go.Proofs
