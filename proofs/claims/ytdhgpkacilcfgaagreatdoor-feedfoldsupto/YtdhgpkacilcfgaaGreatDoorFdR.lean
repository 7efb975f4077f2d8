/-
  FEED: changed, gone; knows, find.
-/
import Derived.Test.YtdhgpkacilcfgaaGreatDoorFdQ
namespace Go.Fd
def changed (s then' : List Cn) : List Cn := wout cnAll s then'
def goneL (s then' : List Cn) : List ByteArray := (wout cnC then' s).map (·.room)
end Go.Fd
namespace Go.Proofs
open Go.RowKit Go.Wi Go.Fd Go.Sort
theorem Tryz.eByAll : ∀ args w, (callFunc 46 args).run Tryz.prog w = .ok (.enter 46 args) w := enters_of Tryz.func46 (by kernel_rfl) rfl
set_option maxRecDepth 20000 in
theorem Tryz.changed_any {w : World} {V U : Value} {s t : List Cn} (h : Cs w V s) (hV : ∀ k, V.ownBlock = some k → k < w.heap.size) (g : Cs w U t) (hU : ∀ k, U.ownBlock = some k → k < w.heap.size) (hs : s.length ≤ 4398046511104) (ht : t.length ≤ 4398046511104) :
    Calls Tryz.prog 26 #[V, U] w fun e w' => ∃ V', e = .returned V' ∧ w'.ownsRow w.heap.size 39 3 V' (changed s t).length (cnCells (changed s t)) ∧ Below w.heap.size w w' := by
  have hw := Tryz.without_any 46 cnAll Tryz.eByAll Tryz.byAll_any h hV g hU hs ht
  clear h hV g hU hs ht
  go_enter Tryz.func26, Tryz.ntmps26
  go_wp2_with (first
    | (go_at_call 45; refine hw.mono ?_; clear hw; rintro e w1 ⟨V1, rfl, hr1, hb1⟩)
    | fail)
  go_ret
  exact ⟨V1, rfl, hr1, hb1⟩
theorem Tryz.infoStr : (Tryz.prog.info? 9).map (fun i => (i.zero, i.size, i.bytes)) = some (some (.string ByteArray.empty), 1, 16) := by kernel_rfl
/-- 'append' of one text. -/
theorem Tryz.appTx {ops : Array Oper} {rest : List Oper} {o : Oper} {a : Act} {Q : Exit → Act → World → Prop} (hgd : o.guard = none) (s y : Operand)
    (ho : o.op = .call { callee := .builtin .append, args := #[s, y], argTypes := #[27, 27] })
    {w : World} {B : Nat} {V : Value} {n : Nat} {L0 : List ByteArray} {x : ByteArray} {g0 : Nat} (hrow : w.ownsRow B 9 1 V n (L0.map Value.string)) (hB : B ≤ w.heap.size) (hs : a.eval s = V) (hb : w.heap[g0]? = some (.cells #[.string x] 9 (0, 0))) (hy : a.eval y = .slice (some ⟨g0, 0, none⟩) 1 1) (hlen : n + 1 ≤ 4398046511104)
    (hK : ∀ v' w', w'.ownsRow B 9 1 v' (n + 1) ((L0 ++ [x]).map Value.string) → Below B w w' → wpList Tryz.prog ops Q rest (a.put o.dst v') w') : wpList Tryz.prog ops Q (o :: rest) a w := by
  obtain ⟨i0, hi0, hz0, hz1, hz2⟩ := info_parts Tryz.infoStr
  refine wpList_append_own _ hgd s y 27 ho B 9 i0 _ 1 16 Tryz.underlying27 hi0 hz0 hz1 hz2 rfl (by omega) V n _ hs hrow ⟨g0, 0, none⟩ 1 1 [.string x] hy rfl (World.news_of_block (cs := #[.string x]) hb) (by simp [Value.oneCell']) (by unfold maxLen; omega) (by omega) hB ?_
  intro v' w' h1 h2 h3
  rw [show L0.map Value.string ++ [Value.string x] = (L0 ++ [x]).map Value.string by simp] at h1
  exact hK v' w' h1 ((Below.refl B w).grown h2 (by omega) fun k e => (hrow.lt k e).1)
theorem Fd.map_take {L : List Cn} {i : Nat} (h : i < L.length) : (L.take (i + 1)).map (·.room) = (L.take i).map (·.room) ++ [L[i]!.room] := by
  rw [getElem!_pos L i h, List.take_succ_eq_append_getElem h, List.map_append]
  rfl
set_option maxRecDepth 20000 in
set_option maxHeartbeats 1000000 in
theorem Tryz.gone_any {w : World} {V U : Value} {s t : List Cn} (h : Cs w V s) (hV : ∀ k, V.ownBlock = some k → k < w.heap.size) (g : Cs w U t) (hU : ∀ k, U.ownBlock = some k → k < w.heap.size) (hs : s.length ≤ 4398046511104) (ht : t.length ≤ 4398046511104) :
    Calls Tryz.prog 27 #[V, U] w fun e w' => ∃ V', e = .returned V' ∧ w'.ownsRow w.heap.size 9 1 V' (goneL s t).length ((goneL s t).map Value.string) ∧ Below w.heap.size w w' := by
  have hw := Tryz.without_any 33 cnC Tryz.eByRoom Tryz.byRoom_any g hU h hV ht hs
  have HL : Hid ((wout cnC t s).length ≤ 4398046511104) := Nat.le_trans (wout_len cnC t s) ht
  have HGN : Hid (goneL s t = (wout cnC t s).map (·.room)) := rfl
  clear h hV g hU hs ht
  generalize wout cnC t s = L at *
  have hN : L.length < 9223372036854775807 := by have := HL.out; omega
  go_enter Tryz.func27, Tryz.ntmps27
  go_upto_region 3 with (first
    | (go_at_call 45; refine hw.mono ?_; clear hw; rintro e w1 ⟨V1, rfl, hr1, hb1⟩; obtain ⟨ad, cap, rfl⟩ := (Cs.ofRow hr1).is)
    | fail)
  have HR : Hid (Cs w1 (.slice ad L.length cap) L ∧ ∀ k, (Value.slice ad L.length cap).ownBlock = some k → k < w1.heap.size) := ⟨Cs.ofRow hr1, fun k e => (hr1.lt k e).2⟩
  have HB1 : Hid (Below w.heap.size w w1) := hb1
  clear hr1 hb1
  go_loopw [5, 7, 12] (fun R _ iv wr => ∃ i : Nat, iv = .int .i64 i ∧ i ≤ L.length ∧ wr.ownsRow w1.heap.size 9 1 R i (((L.take i).map (·.room)).map Value.string) ∧ Below w1.heap.size w1 wr) (fun _ _ iv _ => L.length - (intOf iv).toNat)
  case atStart => exact ⟨0, rfl, Nat.zero_le _, World.ownsRow_nil _ _ _ _, Below.refl _ _⟩
  case round =>
    obtain ⟨i, rfl, hi, hrow, hbel⟩ := hrel
    have HR2 : Hid (wr.ownsRow w1.heap.size 9 1 u5 i (((L.take i).map (·.room)).map Value.string)) := hrow
    have HB2 : Hid (Below w1.heap.size w1 wr) := hbel
    clear hrow hbel
    by_cases hlt : i < L.length
    · have q : (i : Int) < (L.length : Int) := by omega
      have HC2 := HR.out.1.below HB2.out HR.out.2
      obtain ⟨g, o0, rfl, c1, c2, c3⟩ := HC2.at hlt
      rw [← getElem!_pos L i hlt] at c1 c2 c3
      have HD : Hid ((L.take (i + 1)).map (·.room) = (L.take i).map (·.room) ++ [L[i]!.room]) := Fd.map_take hlt
      generalize L[i]! = x at *
      clear HC2
      have HLn : Hid (i + 1 ≤ 4398046511104) := by have := HL.out; show _ ≤ _; omega
      go_upto_region 5 with (fail)
      have HR3 : Hid ((wr.alloc (.cells #[.string x.room, .int .i64 x.un, .int .i64 x.hi] 39)).ownsRow w1.heap.size 9 1 u5 i (((L.take i).map (·.room)).map Value.string)) := Fd.row_past HR2.out ((Below.refl _ wr).alloc (Nat.le_refl _) _) (Nat.le_refl _)
      have HB3 : Hid (Below w1.heap.size w1 (wr.alloc (.cells #[.string x.room, .int .i64 x.un, .int .i64 x.hi] 39))) := HB2.out.alloc HB2.out.size _
      have y0 : (wr.alloc (.cells #[.string x.room, .int .i64 x.un, .int .i64 x.hi] 39)).cell? ⟨wr.heap.size, 0, none⟩ = some (.string x.room) := cell_of_row _ _ _ _ _ _ (heap_alloc_new _ _)
      generalize wr.alloc (.cells #[.string x.room, .int .i64 x.un, .int .i64 x.hi] 39) = wz at *
      generalize wr.heap.size = bx at *
      clear c1 c2 c3
      go_wp2_with (first
        | (at_builtin; refine Tryz.appTx rfl _ _ rfl (Fd.row_past HR3.out ((Below.refl _ _).alloc (Nat.le_refl _) _) (Nat.le_refl _)) (by rw [World.size_alloc]; exact Nat.le_succ_of_le HB3.out.size) rfl (heap_alloc_new _ _) rfl HLn.out ?_; intro v1 w2 hr2 hb2)
        | fail)
      go_roundw
      case rel => exact ⟨i + 1, by simp, by omega, by rw [HD.out]; exact hr2, (HB3.out.alloc HB3.out.size _).trans hb2⟩
      case measure => simp [intOf]; omega
    · have q : ¬ (i : Int) < (L.length : Int) := by omega
      have e : i = L.length := by omega
      subst e
      have hfin := HR2.out
      rw [List.take_length, ← HGN.out] at hfin
      have HF : Hid (wr.ownsRow w.heap.size 9 1 u5 (goneL s t).length ((goneL s t).map Value.string)) := by
        have hl : L.length = (goneL s t).length := by rw [HGN.out]; simp
        rw [hl] at hfin
        exact Fd.row_mono hfin HB1.out.size
      clear hfin
      go_wp2
      go_ret
      exact ⟨_, rfl, HF.out, HB1.out.trans (HB2.out.mono HB1.out.size)⟩
end Go.Proofs
