/-
  THE WORDS OF A TEXT AS WHOEVER RANGES OVER THEM HAS THEM: each that is told is one of them, at its place.
-/
import Derived.Test.YtaigcmlalnegpaaDoorWords
namespace Go.Proofs
open Go.RowKit Go.Shelf
attribute [local go_sem] Oper.semAt_some
set_option maxRecDepth 100000 in
set_option maxHeartbeats 4000000 in
theorem Tryd.words2_in (n : Nat) (hn : 1 ≤ n) (l Bs n₀ : Nat) (s : ByteArray) (_hs : s.size ≤ maxLen) (J Jx : List (Nat × Nat) → World → Prop) (W : World)
    (hJ : AbidesFrom W.heap.size J)
    (hY : ∀ pre x W, J pre W → pre ++ [x] <+: Sg.words s → YieldAt Fence.wide (n - 1) Tryd.prog l (Sg.enc x) W fun e W' =>
      (e = .returned (.bool true) ∧ J (pre ++ [x]) W' ∧ Sg.Kp n₀ W W') ∨ (e = .returned (.bool false) ∧ Jx (pre ++ [x]) W'))
    (hB0 : Bs < n₀) (hn₀ : n₀ ≤ W.heap.size) (hBs : W.cell? ⟨Bs, 0, none⟩ = some (.string s)) (h0 : J [] W) :
    CallsIn Fence.wide n Tryd.prog 29 #[.func (.yield l) #[] #[], .pointer (some ⟨Bs, 0, none⟩)] W fun e W' => (∃ v, e = .returned v) ∧
      ((∃ ys, ys = Sg.words s ∧ J ys W') ∨ (∃ pre, pre <+: Sg.words s ∧ Jx pre W')) := by
  refine callsIn_of_wp Tryd.func29 rfl trivial ?_ rfl
  simp only [Tryd.ntmps29, List.size_toArray, List.length_cons, List.length_nil, Nat.reduceAdd, Nat.reduceSub, Array.replicate_succ, Array.replicate_zero, List.push_toArray, List.append_toArray, List.nil_append, List.cons_append]
  gi_wp2
  gi_loopw [3] (fun v wr => ∃ (pos fuel : Nat) (fr : Option Nat) (pre : List (Nat × Nat)), v = .int .i64 (Sg.frI fr) ∧ wr.heap[W.heap.size]? = some (.stringIter s pos) ∧ Below n₀ W wr ∧ J pre wr ∧ pre ++ Sg.wordsGo s fuel pos fr = Sg.words s ∧ s.size + 1 ≤ pos + fuel ∧ pos ≤ s.size ∧ (∀ a, fr = some a → a < s.size)) (fun _ wr => s.size - wr.iterPos W.heap.size)
  case atStart =>
    refine ⟨0, s.size + 1, none, [], rfl, ?_, (Below.refl _ W).alloc hn₀ _, hJ [] W _ none h0 (World.grownBy_alloc _ _ _) (fun r e => by cases e), rfl, by omega, by omega, fun a e => by cases e⟩
    have := World.iter_heap W s 0
    simpa using this
  case round =>
    obtain ⟨pos, fuel, fr, pre, rfl, hit, hbw, hJs, hacc, hfu, hpl, hfr⟩ := hrel
    have hsz : W.heap.size < wr.heap.size := (Array.getElem?_eq_some_iff.1 hit).1
    have hbx : wr.cell? ⟨Bs, 0, none⟩ = some (.string s) := (hbw.cell (p := ⟨Bs, 0, none⟩) hB0).trans hBs
    obtain ⟨f, rfl⟩ : ∃ f, fuel = f + 1 := ⟨fuel - 1, by omega⟩
    unfold maxLen at _hs
    by_cases hp : pos < s.size
    · have hnx : ∀ ty, (Instr.next (.pointer (some ⟨W.heap.size, 0, none⟩)) true ty).run Tryd.prog wr = _ := fun ty => Lib.run_next_any_at wr W.heap.size s pos ty hit hp
      have hwd := Lib.width_pos s pos
      have hit2 := Lib.iterAt_heap wr W.heap.size s pos (pos + (Utf8.decode s pos).2) hit
      have hbw2 := Lib.below_iterAt hbw (k := W.heap.size) hn₀ s (pos + (Utf8.decode s pos).2)
      have hJ2 : J pre (wr.iterAt W.heap.size s (pos + (Utf8.decode s pos).2)) := hJ pre wr _ (some W.heap.size) hJs (Sg.iter_grown _ _ _ _) (fun r e => by cases e; exact ⟨Nat.le_refl _, _, hit, rfl⟩)
      have hc := fun w => Tryd.isWord_any ((Utf8.decode s pos).1 : Int) w
      cases hwb : Sg.wordB (Utf8.decode s pos).1 with
      | true =>
        rw [Sg.wordsGo_t s f pos fr hp hwb] at hacc
        simp only [hwb] at hc
        have Hc : Hid _ := hc
        have Ha : Hid _ := hacc
        clear hc hacc hwb hY
        have hwi := Sg.decode_in s pos hp
        cases fr with
        | none =>
          simp only [Sg.frI]
          gi_wp2_with (refine ⟨trivial, ?_⟩; gi_at_call 15; refine (callsIn_wide.2 (Hc.out _)).mono ?_; rintro e w' ⟨rfl, rfl⟩)
          go_roundw
          case rel => exact ⟨_, f, some pos, pre, rfl, hit2, hbw2, hJ2, Ha.out, by omega, hwi, fun a e => by cases e; exact hp⟩
          case measure =>
            simp only [World.iterPos, hit2, hit]
            omega
        | some a =>
          have ha := hfr a rfl
          simp only [Sg.frI]
          gi_wp2_with (refine ⟨trivial, ?_⟩; gi_at_call 15; refine (callsIn_wide.2 (Hc.out _)).mono ?_; rintro e w' ⟨rfl, rfl⟩)
          go_roundw
          case rel => exact ⟨_, f, some a, pre, rfl, hit2, hbw2, hJ2, Ha.out, by omega, hwi, fun b e => by cases e; exact ha⟩
          case measure =>
            simp only [World.iterPos, hit2, hit]
            omega
      | false =>
        rw [Sg.wordsGo_f s f pos fr hp hwb] at hacc
        simp only [hwb] at hc
        have hwi := Sg.decode_in s pos hp
        cases fr with
        | none =>
          have Hc : Hid _ := hc
          have Ha : Hid _ := hacc
          clear hc hacc hwb hY
          simp only [Sg.frI]
          gi_wp2_with (refine ⟨trivial, ?_⟩; gi_at_call 15; refine (callsIn_wide.2 (Hc.out _)).mono ?_; rintro e w' ⟨rfl, rfl⟩)
          go_roundw
          case rel => exact ⟨_, f, none, pre, rfl, hit2, hbw2, hJ2, Ha.out, by omega, hwi, fun b e => by cases e⟩
          case measure =>
            simp only [World.iterPos, hit2, hit]
            omega
        | some a =>
          have ha := hfr a rfl
          simp only [Option.toList_some, List.map_cons, List.map_nil, List.cons_append, List.nil_append] at hacc
          obtain ⟨fn, tmps, assign, body, hy, hR⟩ := hY pre (a, pos) _ hJ2 ⟨_, by rw [← hacc]; simp; rfl⟩
          have Hc : Hid _ := hc
          have Ha : Hid _ := hacc
          clear hc hacc hwb hY
          dsimp only [Sg.enc] at hy
          simp only [Sg.frI]
          gi_wp2_with (refine ⟨trivial, ?_⟩; gi_at_call 15; refine (callsIn_wide.2 (Hc.out _)).mono ?_; rintro e w' ⟨rfl, rfl⟩)
          refine hR.mono ?_
          rintro e W3 (⟨rfl, hJ3, hk3⟩ | ⟨rfl, hJx3⟩)
          · have hit3 : W3.heap[W.heap.size]? = some (.stringIter s (pos + (Utf8.decode s pos).2)) := hk3.2.same _ _ hit2 rfl
            gi_wp2
            go_roundw
            case rel => exact ⟨_, f, none, pre ++ [(a, pos)], rfl, hit3, hbw2.trans hk3.1, hJ3, by rw [← Ha.out]; simp, by omega, hwi, fun b e => by cases e⟩
            case measure =>
              simp only [World.iterPos, hit3, hit]
              omega
          · gi_wp2
            refine bodyPost_ret (results_none rfl _ _ _) rfl ?_
            exact ⟨⟨_, rfl⟩, .inr ⟨pre ++ [(a, pos)], ⟨_, by rw [← Ha.out]; simp; rfl⟩, hJx3⟩⟩
    · have hnx : ∀ ty, (Instr.next (.pointer (some ⟨W.heap.size, 0, none⟩)) true ty).run Tryd.prog wr = _ := fun ty => Lib.run_next_end_at wr W.heap.size s pos ty hit hp
      rw [Sg.wordsGo_e s f pos fr hp] at hacc
      cases fr with
      | none =>
        have Ha : Hid _ := hacc
        clear hacc hY
        simp only [Sg.frI]
        gi_wp2
        go_end0
        exact ⟨⟨_, rfl⟩, .inl ⟨pre, by rw [← Ha.out]; simp, hJs⟩⟩
      | some a =>
        have ha := hfr a rfl
        simp only [Option.toList_some, List.map_cons, List.map_nil] at hacc
        obtain ⟨fn, tmps, assign, body, hy, hR⟩ := hY pre (a, s.size) _ hJs (by rw [hacc]; exact List.prefix_refl _)
        have Ha : Hid _ := hacc
        clear hacc hY
        dsimp only [Sg.enc] at hy
        simp only [Sg.frI]
        gi_wp2
        refine hR.mono ?_
        rintro e W3 (⟨rfl, hJ3, hk3⟩ | ⟨rfl, hJx3⟩)
        · gi_wp2
          go_end0
          exact ⟨⟨_, rfl⟩, .inl ⟨pre ++ [(a, s.size)], Ha.out, hJ3⟩⟩
        · gi_wp2
          go_end0
          exact ⟨⟨_, rfl⟩, .inr ⟨pre ++ [(a, s.size)], by rw [Ha.out]; exact List.prefix_refl _, hJx3⟩⟩
/-- One of a text's words. -/
abbrev Sg.Wd (s : ByteArray) : Type := { x : Nat × Nat // x ∈ Sg.words s }
def Sg.enc2 (s : ByteArray) (x : Sg.Wd s) : Array Value := #[.int .i64 (x.1.1 : Int), .int .i64 (x.1.2 : Int)]
theorem Tryd.words_stops2 (n : Nat) (hn : 1 ≤ n) (Bs n₀ : Nat) (s : ByteArray) (hs : s.size ≤ maxLen) (w : World) (hB0 : Bs < n₀) (hn₀ : n₀ ≤ w.heap.size) (hBs : w.cell? ⟨Bs, 0, none⟩ = some (.string s)) :
    SeqStopsK Fence.wide n Tryd.prog 29 #[.pointer (some ⟨Bs, 0, none⟩)] (Sg.enc2 s) (Sg.Kp n₀) (fun ys => ys.map Subtype.val = Sg.words s) (fun pre => pre.map Subtype.val <+: Sg.words s) (Sg.words s).length w := by
  intro l J Jx W hW hJ hJx hY h0
  refine (Tryd.words2_in n hn l Bs n₀ s hs (fun pre W => ∃ q : List (Sg.Wd s), q.map Subtype.val = pre ∧ J q W) (fun pre W => ∃ q : List (Sg.Wd s), q.map Subtype.val = pre ∧ Jx q W) W
    (fun p A B row h hg hr => by obtain ⟨q, e, h⟩ := h; exact ⟨q, e, hJ q A B row h hg hr⟩) ?_ hB0 (Nat.le_trans hn₀ hW.size) ((hW.cell (p := ⟨Bs, 0, none⟩) (Nat.lt_of_lt_of_le hB0 hn₀)).trans hBs) ⟨[], rfl, h0⟩).mono ?_
  · rintro pre x W1 ⟨q, rfl, hq⟩ hpre
    have hx : x ∈ Sg.words s := hpre.subset (List.mem_append.2 (.inr (List.mem_singleton.2 rfl)))
    have hl : q.length < (Sg.words s).length := by
      have := hpre.length_le
      simp at this
      omega
    refine (hY q ⟨x, hx⟩ W1 hq hl).mono ?_
    rintro e W' (⟨e1, h1, h2⟩ | ⟨e1, h1⟩)
    · exact .inl ⟨e1, ⟨q ++ [⟨x, hx⟩], by simp, h1⟩, h2⟩
    · exact .inr ⟨e1, ⟨q ++ [⟨x, hx⟩], by simp, h1⟩⟩
  · rintro e W' ⟨hv, (⟨ys, rfl, q, hq, h1⟩ | ⟨pre, hp, q, rfl, h1⟩)⟩
    · exact ⟨hv, .inl ⟨q, hq, h1⟩⟩
    · exact ⟨hv, .inr ⟨q, hp, h1⟩⟩
end Go.Proofs
