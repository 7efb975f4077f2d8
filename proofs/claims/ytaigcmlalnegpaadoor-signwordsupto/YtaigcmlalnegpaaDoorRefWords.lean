import Derived.Test.YtaigcmlalnegpaaDoorRefEdges
import Derived.Test.YtaigcmlalnegpaaDoorWordsP
namespace Go.Proofs
open Go.RowKit
/-- Words, as a slice of pairs holds them. -/
def Sg.wcells (l : List (Nat × Nat)) : List Value := l.flatMap fun x => [.int .i64 (x.1 : Int), .int .i64 (x.2 : Int)]
theorem Sg.wcells_snoc (l : List (Nat × Nat)) (x : Nat × Nat) : Sg.wcells (l ++ [x]) = Sg.wcells l ++ [.int .i64 (x.1 : Int), .int .i64 (x.2 : Int)] := by
  unfold Sg.wcells
  rw [List.flatMap_append]
  simp
theorem Tryd.info_pair : (Tryd.prog.info? 36).map (fun i => (i.zero, i.size, i.bytes)) = some (some (.agg #[.int .i64 0, .int .i64 0]), 2, 16) := by kernel_rfl
/-- 'out = append(out, [2]int{a, b})'. -/
theorem Sg.append_pair {P : Program} {ops : Array Oper} {rest : List Oper} {o : Oper} {a : Act} {Q : Exit → Act → World → Prop} (hgd : o.guard = none) (s x : Operand) (t : TypeId)
    (ho : o.op = .call { callee := .builtin .append, args := #[s, x], argTypes := #[t, t] })
    (B : Nat) (e : TypeId) (i : TypeInfo) (ht : P.underlying t = some (.slice e)) (hi : P.info? e = some i) (hz : i.zero = some (.agg #[.int .i64 0, .int .i64 0])) (hsize : i.size = 2) (hby : i.bytes = 16)
    (v : Value) (n : Nat) (xs : List Value) (hs : a.eval s = v) (W0 w0 : World) (c d : Int) (hb : w0.ownsRowF B e 2 v n xs) (hbe : Below B W0 w0) (hB : B ≤ w0.heap.size)
    (hx : a.eval x = .slice (some ⟨w0.heap.size, 0, none⟩) 1 1) (hlen : (n + 1) * 16 ≤ 140737488355328)
    (h : ∀ v' w', w'.ownsRowF B e 2 v' (n + 1) (xs ++ [.int .i64 c, .int .i64 d]) → Below B W0 w' → wpList P ops Q rest (a.put o.dst v') w') : wpList P ops Q (o :: rest) a (w0.alloc (.cells #[.int .i64 c, .int .i64 d] e)) := by
  have hb' := hb.alloc (.cells #[.int .i64 c, .int .i64 d] e)
  have hbe' := hbe.alloc hB (.cells #[.int .i64 c, .int .i64 d] e)
  have hz' : (w0.alloc (.cells #[.int .i64 c, .int .i64 d] e)).heap.size = w0.heap.size + 1 := by simp
  refine wpList_append_ownF _ hgd s x t ho B e i (.agg #[.int .i64 0, .int .i64 0]) 2 16 ht hi hz hsize hby rfl (by decide) v n xs hs hb' ⟨w0.heap.size, 0, none⟩ 1 1 [.int .i64 c, .int .i64 d] hx rfl ?_ ?_ (by unfold maxLen; omega) hlen (by omega) ?_
  · intro j u hj
    match j, hj with
    | 0, hj => simp at hj; subst hj; simp [Addr.add]
    | 1, hj => simp at hj; subst hj; simp [Addr.add]
    | (j + 2), hj => simp at hj
  · intro u hu
    simp at hu
    rcases hu with rfl | rfl <;> rfl
  · intro v' w' ho' hg _
    exact h v' w' ho' (hbe'.grown hg (by omega) (fun k hk => (hb'.lt k hk).1))
set_option maxRecDepth 100000 in
set_option maxHeartbeats 4000000 in
theorem Tryd.refWords_any (s : ByteArray) (w : World) (hs : s.size ≤ 1048576) :
    Calls Tryd.prog 18 #[.string s] w fun e w' => ∃ v, e = .returned v ∧ w'.ownsRowF w.heap.size 36 2 v (Sg.words s).length (Sg.wcells (Sg.words s)) ∧ Below w.heap.size w w' := by
  obtain ⟨i0, hi, hz0, hz1, hz2⟩ := info_parts Tryd.info_pair
  go_enter Tryd.func18, Tryd.ntmps18
  go_wp2
  go_loopw [3, 4, 5] (fun v f i wr => ∃ (pos fuel : Nat) (fr : Option Nat) (pre : List (Nat × Nat)), i = .int .i64 pos ∧ f = .int .i64 (Sg.frI fr) ∧ wr.ownsRowF w.heap.size 36 2 v pre.length (Sg.wcells pre) ∧ Below w.heap.size w wr ∧ pre ++ Sg.wordsGo s fuel pos fr = Sg.words s ∧ s.size + 1 ≤ pos + fuel ∧ pos ≤ s.size ∧ (∀ a, fr = some a → a < s.size) ∧ pre.length ≤ pos) (fun _ _ i _ => s.size - (intOf i).toNat)
  case atStart => exact ⟨0, s.size + 1, none, [], rfl, rfl, ⟨rfl, .inl ⟨rfl, rfl⟩⟩, Below.refl _ _, rfl, by omega, by omega, fun a e => by (cases e), Nat.le_refl _⟩
  case round =>
    obtain ⟨pos, fuel, fr, pre, rfl, rfl, hown, hb, hacc, hfu, hpl, hfr, hlen⟩ := hrel
    obtain ⟨f, rfl⟩ : ∃ f, fuel = f + 1 := ⟨fuel - 1, by omega⟩
    by_cases hp : pos < s.size
    · have hsg := fun w => Tryd.refSign_any s pos hp (by omega) w
      have hrl := Lib.rune_le s pos
      have hwp := Lib.width_pos s pos
      have hwi := Sg.decode_in s pos hp
      have hwrd := fun w => Tryd.refWord_any ((Utf8.decode s pos).1 : Int) w (by omega) (by omega)
      have hiw := Sg.isW_wrong s pos
      unfold Sg.isW at hiw
      have hz := hb.size
      cases hwb : Sg.wordB (Utf8.decode s pos).1 with
      | true =>
        rw [Sg.wordsGo_t s f pos fr hp hwb] at hacc
        rw [hwb] at hwrd
        have hw : Sg.wrongAt s pos = false := by
          cases h : Sg.wrongAt s pos with
          | false => rfl
          | true => have := hiw h; rw [hwb] at this; cases this
        rw [hw] at hsg
        have Hsg : Hid _ := hsg
        have Hwrd : Hid _ := hwrd
        have Ha : Hid _ := hacc
        clear hsg hwrd hacc hwb hiw hw
        cases fr with
        | none =>
          simp only [Sg.frI]
          go_wp2_with (first | (go_at_call 34; refine (Hsg.out _).mono ?_; rintro e w' ⟨rfl, rfl⟩) | (go_at_call 17; refine (Hwrd.out _).mono ?_; rintro e w' ⟨rfl, rfl⟩))
          go_roundw
          case rel => exact ⟨_, f, some pos, pre, by go_num, rfl, hown, hb, Ha.out, by omega, hwi, fun a e => by (cases e; exact hp), by omega⟩
          case measure => simp [intOf]; omega
        | some a =>
          have ha := hfr a rfl
          simp only [Sg.frI]
          go_wp2_with (first | (go_at_call 34; refine (Hsg.out _).mono ?_; rintro e w' ⟨rfl, rfl⟩) | (go_at_call 17; refine (Hwrd.out _).mono ?_; rintro e w' ⟨rfl, rfl⟩))
          go_roundw
          case rel => exact ⟨_, f, some a, pre, by go_num, rfl, hown, hb, Ha.out, by omega, hwi, fun b e => by (cases e; exact ha), by omega⟩
          case measure => simp [intOf]; omega
      | false =>
        rw [Sg.wordsGo_f s f pos fr hp hwb] at hacc
        rw [hwb] at hwrd
        cases hw : Sg.wrongAt s pos with
        | true =>
          rw [hw] at hsg
          have Hsg : Hid _ := hsg
          have Ha : Hid _ := hacc
          clear hsg hwrd hacc hwb hiw hw
          cases fr with
          | none =>
            simp only [Sg.frI]
            go_wp2_with (first | (go_at_call 34; refine (Hsg.out _).mono ?_; rintro e w' ⟨rfl, rfl⟩))
            go_roundw
            case rel => exact ⟨_, f, none, pre, by go_num, rfl, hown, hb, Ha.out, by omega, hwi, fun b e => by (cases e), by omega⟩
            case measure => simp [intOf]; omega
          | some a =>
            have ha := hfr a rfl
            simp only [Sg.frI]
            go_wp2_with (first | (go_at_call 34; refine (Hsg.out _).mono ?_; rintro e w' ⟨rfl, rfl⟩) | (at_builtin; refine Sg.append_pair rfl (.tmp 39) (.tmp 43) 34 rfl w.heap.size 36 i0 Tryd.underlying34 hi hz0 hz1 hz2 _ pre.length (Sg.wcells pre) rfl w _ _ _ hown hb hz rfl (by omega) ?_; intro v' w1 hown1 hb1))
            go_roundw
            case rel => exact ⟨_, f, none, pre ++ [(a, pos)], by go_num, rfl, by rw [Sg.wcells_snoc, List.length_append]; exact hown1, hb1, by rw [← Ha.out]; simp, by omega, hwi, fun b e => by (cases e), by simp; omega⟩
            case measure => simp [intOf]; omega
        | false =>
          rw [hw] at hsg
          have Hsg : Hid _ := hsg
          have Hwrd : Hid _ := hwrd
          have Ha : Hid _ := hacc
          clear hsg hwrd hacc hwb hiw hw
          cases fr with
          | none =>
            simp only [Sg.frI]
            go_wp2_with (first | (go_at_call 34; refine (Hsg.out _).mono ?_; rintro e w' ⟨rfl, rfl⟩) | (go_at_call 17; refine (Hwrd.out _).mono ?_; rintro e w' ⟨rfl, rfl⟩))
            go_roundw
            case rel => exact ⟨_, f, none, pre, by go_num, rfl, hown, hb, Ha.out, by omega, hwi, fun b e => by (cases e), by omega⟩
            case measure => simp [intOf]; omega
          | some a =>
            have ha := hfr a rfl
            simp only [Sg.frI]
            go_wp2_with (first | (go_at_call 34; refine (Hsg.out _).mono ?_; rintro e w' ⟨rfl, rfl⟩) | (go_at_call 17; refine (Hwrd.out _).mono ?_; rintro e w' ⟨rfl, rfl⟩) | (at_builtin; refine Sg.append_pair rfl (.tmp 39) (.tmp 43) 34 rfl w.heap.size 36 i0 Tryd.underlying34 hi hz0 hz1 hz2 _ pre.length (Sg.wcells pre) rfl w _ _ _ hown hb hz rfl (by omega) ?_; intro v' w1 hown1 hb1))
            go_roundw
            case rel => exact ⟨_, f, none, pre ++ [(a, pos)], by go_num, rfl, by rw [Sg.wcells_snoc, List.length_append]; exact hown1, hb1, by rw [← Ha.out]; simp, by omega, hwi, fun b e => by (cases e), by simp; omega⟩
            case measure => simp [intOf]; omega
    · rw [Sg.wordsGo_e s f pos fr hp] at hacc
      have hz := hb.size
      cases fr with
      | none =>
        have Ha : Hid _ := hacc
        clear hacc
        simp only [Sg.frI]
        go_wp2
        go_ret
        have e : pre = Sg.words s := by rw [← Ha.out]; simp
        exact ⟨_, rfl, by rw [← e]; exact hown, hb⟩
      | some a =>
        have ha := hfr a rfl
        have Ha : Hid _ := hacc
        clear hacc
        simp only [Sg.frI]
        go_wp2_with (at_builtin; refine Sg.append_pair rfl (.tmp 50) (.tmp 55) 34 rfl w.heap.size 36 i0 Tryd.underlying34 hi hz0 hz1 hz2 _ pre.length (Sg.wcells pre) rfl w _ _ _ hown hb hz rfl (by omega) ?_; intro v' w1 hown1 hb1)
        go_ret
        have e : pre ++ [(a, s.size)] = Sg.words s := by rw [← Ha.out]; simp
        exact ⟨_, rfl, by rw [← e, Sg.wcells_snoc, List.length_append]; exact hown1, hb1⟩
end Go.Proofs
