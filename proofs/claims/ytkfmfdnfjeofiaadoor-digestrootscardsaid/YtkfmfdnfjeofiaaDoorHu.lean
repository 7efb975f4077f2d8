/-
  The laws' primes and roots.
-/
import Derived.Test.YtkfmfdnfjeofiaaDoorHt
import Derived.Lib.QuietBelow
import Derived.Laws.AppendOwn
namespace Go.Dg
def c64 (l : List Nat) : List Value := l.map fun (n : Nat) => Value.int .u64 (n : Int)
theorem c64_len (l : List Nat) : (c64 l).length = l.length := by simp [c64]
theorem c64_app (a b : List Nat) : c64 (a ++ b) = c64 a ++ c64 b := by simp [c64]
theorem isP_next (x : Nat) (l : List Nat) (i : Nat) (h : i < l.length) : isP x (l.take (i + 1)) = (isP x (l.take i) && (x % l[i] != 0)) := by
  unfold isP
  rw [List.take_add_one, List.getElem?_eq_getElem h, List.all_append]
  simp
section
variable {P : Program} {ops : Array Oper} {C : World → Prop} {Q : Act → Prop} {a : Act} {o : Oper} {rest : List Oper}
theorem q_no (h : Region.wanted o (yielded ops a.tmps) = false) (hK : wpQuiet P ops C Q rest (a.put o.dst undef)) : wpQuiet P ops C Q (o :: rest) a := by
  unfold wpQuiet
  rw [if_neg (by rw [h]; decide)]
  exact hK
theorem q_tail {L : List Oper} (k : Nat) (h1 : (L.take k).all (fun o => o.guard == some (12, true) && o.dst != some 52) = true) (h2 : (ops[12]?).bind (·.dst) = some 52) (h3 : a.tmps[52]? = some (.bool false))
    (hK : wpQuiet P ops C Q (L.drop k) ((L.take k).foldl (fun a o => a.put o.dst undef) a)) : wpQuiet P ops C Q L a := by
  have key : ∀ (l r : List Oper) (a : Act), l.all (fun o => o.guard == some (12, true) && o.dst != some 52) = true → a.tmps[52]? = some (.bool false) → wpQuiet P ops C Q r (l.foldl (fun a o => a.put o.dst undef) a) → wpQuiet P ops C Q (l ++ r) a := by
    intro l
    induction l with
    | nil => intro r a _ _ h; exact h
    | cons o l ih =>
      intro r a h1 h3 hK
      rw [List.all_cons, Bool.and_eq_true, Bool.and_eq_true] at h1
      obtain ⟨⟨hg, hd⟩, hl⟩ := h1
      have hg' : o.guard = some (12, true) := by simpa using hg
      have hd' : o.dst ≠ some 52 := by simpa using hd
      refine q_no ?_ (ih r _ hl ?_ hK)
      · unfold Region.wanted yielded
        rw [hg']
        simp [h2, h3]
      · unfold Act.put
        cases hx : o.dst with
        | none => exact h3
        | some d =>
          have : d ≠ 52 := fun e => hd' (by rw [hx, e])
          simp only
          rw [Array.getElem?_setIfInBounds_ne this]
          exact h3
  have := key (L.take k) (L.drop k) a h1 h3 hK
  rwa [List.take_append_drop] at this
theorem q_yes {v : Value} (h : Region.wanted o (yielded ops a.tmps) = true) (he : ∀ w, C w → (execOp a.eval o).run P w = .ok (.value v) w) (hK : wpQuiet P ops C Q rest (a.put o.dst v)) : wpQuiet P ops C Q (o :: rest) a := by
  unfold wpQuiet
  rw [if_pos h]
  refine ⟨v, fun w hw => ?_, hK⟩
  unfold Oper.quietAt
  rw [he w hw]
  exact ⟨rfl, rfl⟩
end
theorem root3_at (i : Nat) (h : i < 64) : (rounds[i]'h : Nat) = root (primes[i]'h) 3 := by
  have h1 : (primes.map (fun p => root p 3))[i]? = rounds[i]? := by rw [root3]
  rw [List.getElem?_map, List.getElem?_eq_getElem (show i < primes.length from h), List.getElem?_eq_getElem (show i < rounds.length from h)] at h1
  injection h1 with h1
  exact h1.symm
theorem root2_at (i : Nat) (h : i < 8) : (start.l[i]'h : Nat) = root (primes[i]'(Nat.lt_of_lt_of_le h (by decide))) 2 := by
  have h1 : ((primes.take 8).map (fun p => root p 2))[i]? = start.l[i]? := by rw [root2]
  rw [List.getElem?_map, List.getElem?_take, if_pos h, List.getElem?_eq_getElem (show i < primes.length from Nat.lt_of_lt_of_le h (by decide)), List.getElem?_eq_getElem (show i < start.l.length from h)] at h1
  injection h1 with h1
  exact h1.symm
end Go.Dg
namespace Go.Proofs
open Go.RowKit Go.Wi Go.Dg Go.Sort
set_option maxRecDepth 20000 in
set_option maxHeartbeats 4000000 in
theorem Tryd.reckoned_any (w : World) :
    Calls Tryd.prog 15 #[] w fun e w' => e = .returned (.bool true) ∧ Below w.heap.size w w' := by
  have s8 : Dg.start.l.length = 8 := rfl
  have s64 : rounds.length = 64 := rfl
  go_enter Tryd.func15, Tryd.ntmps15
  go_wp2_with (first | (go_at_call 31; refine (Tryd.starts_any _).mono ?_; rintro z w4 ⟨rfl, hb4⟩; have HB4 : Hid _ := hb4; clear hb4; have st4 := Tryd.new8 w4 Dg.start.l rfl) | (go_at_call 32; refine (Tryd.rounds_any _).mono ?_; rintro z w5 ⟨rfl, hb5⟩; have HB5 : Hid _ := hb5; clear hb5; have st5 := Tryd.new64 w5 rounds rfl) | fail)
  obtain ⟨W, hW⟩ : ∃ W, W = w5.alloc (.cells (rounds.map fun (n : Nat) => Value.int .u32 (n : Int)).toArray 62) := ⟨_, rfl⟩
  have hs4 : w.heap.size ≤ w4.heap.size := HB4.out.size
  have hs5 : w4.heap.size + 1 ≤ w5.heap.size := by have := HB5.out.size; simpa using this
  have HAs : Hid (Dg.Ar 60 W w4.heap.size Dg.start.l) := (by
    rw [hW]
    exact (Below.heap_alloc _ _ _ (by omega)).trans ((HB5.out.block _ (by rw [World.size_alloc]; omega)).trans (heap_alloc_new w4 _)))
  have HAk : Hid (Dg.Ar 62 W w5.heap.size rounds) := (by rw [hW]; exact heap_alloc_new w5 _)
  have HWb : Hid (Below w.heap.size w W) := (by
    rw [hW]
    exact ((HB4.out.alloc hs4 _).trans (HB5.out.mono (by rw [World.size_alloc]; omega))).alloc (by omega) _)
  rw [← hW]
  clear hW HB4 HB5 st4 st5
  go_loopw [3, 4] (fun v xv wr => ∃ (j N X : Nat) (ad : Option Addr) (cap : Nat), v = .slice ad N cap ∧ xv = .int .u64 (X : Int) ∧ j ≤ 310 ∧ Hid (N = (prm j).length) ∧ Hid (X = j + 2) ∧ Hid (wr.ownsRow W.heap.size 65 1 v N (c64 (prm j))) ∧ Hid (Below W.heap.size W wr)) (fun _ xv _ => 400 - (intOf xv).toNat)
  case atStart => exact ⟨0, 0, 2, none, 0, rfl, rfl, by omega, rfl, rfl, World.ownsRow_nil _ _ _ _, Below.refl _ W⟩
  case round =>
    obtain ⟨j, N, X, ad, cap, rfl, rfl, hj, HN, HX, Ho, Hw⟩ := hrel
    have hX2 : X < 400 := by have := HX.out; omega
    by_cases hlt : j < 310
    · have q1 : (N : Int) < 64 := by have h1 := prm_short j (by omega); have h2 := HN.out; omega
      go_wp2
      go_loopw [5, 6] (fun cv iv wr2 => ∃ (i : Nat) (c : Bool), cv = .bool c ∧ iv = .int .i64 (i : Int) ∧ i ≤ N ∧ Hid (c = isP X ((prm j).take i)) ∧ wr2 = wr) (fun _ iv _ => N - (intOf iv).toNat)
      case atStart => exact ⟨0, true, rfl, rfl, by omega, rfl, rfl⟩
      case round =>
        obtain ⟨i, c, rfl, rfl, hi, Hc, rfl⟩ := hrel
        by_cases hil : i < N
        · have q2 : (i : Int) < N := by omega
          have q3 : (0 : Int) ≤ i := by omega
          have hil2 : i < (prm j).length := by have := HN.out; omega
          obtain ⟨y, hy⟩ : ∃ y : Nat, y = (prm j)[i]'hil2 := ⟨_, rfl⟩
          have hy2 : 2 ≤ y := by rw [hy]; exact prm_two j _ (List.getElem_mem _)
          have Hnx : Hid (isP X ((prm j).take (i + 1)) = (isP X ((prm j).take i) && (X % y != 0))) := (by rw [hy]; exact isP_next X (prm j) i hil2)
          obtain ⟨g, rfl, hcell⟩ : ∃ g, ad = some ⟨g, 0, none⟩ ∧ wr.cell? ⟨g, i, none⟩ = some (.int .u64 (y : Int)) := by
            rcases Ho.out.2 with ⟨e, e0⟩ | ⟨g, cap', cur, e, _, hg, h1, h2, h3, h4⟩
            · omega
            · injection e with e1 e2 e3
              refine ⟨g, e1, ?_⟩
              rw [cell_of_row _ _ _ _ _ _ hg, ← Array.getElem?_toList]
              have h5 : (c64 (prm j))[i]? = some (.int .u64 (y : Int)) := by
                rw [hy]
                simp [c64, hil2]
              rw [← h4, List.getElem?_take] at h5
              split at h5
              · exact h5
              · cases h5
          have q4 : ¬ (y : Int) = 0 := by omega
          have q4b : ¬ y = 0 := by omega
          obtain ⟨z, hz⟩ : ∃ z : Nat, z = X % y := ⟨_, rfl⟩
          have f1 : (X : Int).tmod (y : Int) = (z : Int) := by rw [Int.tmod_eq_emod_of_nonneg (by omega), hz]; simp
          have f2 : (X : Int) % (y : Int) = (z : Int) := by rw [hz]; simp
          have Hnx2 : Hid (isP X ((prm j).take (i + 1)) = (c && (z != 0))) := (by show _ = _; rw [Hnx.out, ← Hc.out, hz])
          clear hy hz Hnx
          cases c
          · go_wp2
            refine ⟨⟨i + 1, false, rfl, by go_num, by omega, ?_, trivial⟩, ?_⟩
            · show _ = _
              rw [Hnx2.out]
              rfl
            · simp [intOf]; omega
          · go_wp2
            refine ⟨⟨i + 1, ((z : Int) != 0), rfl, by go_num, by omega, ?_, trivial⟩, ?_⟩
            · show _ = _
              rw [Hnx2.out]
              rw [Bool.true_and, Bool.eq_iff_iff]
              simp
            · simp [intOf]; omega
        · have q2 : ¬ (i : Int) < N := by omega
          obtain rfl : i = N := by omega
          have HP : Hid (prm (j + 1) = if c then prm j ++ [X] else prm j) := (by
            show _ = _
            have h1 := Hc.out
            rw [List.take_of_length_le (by have := HN.out; omega), HX.out] at h1
            rw [show prm (j + 1) = if isP (j + 2) (prm j) then prm j ++ [j + 2] else prm j from rfl, ← h1, HX.out])
          have f1 : IntKind.u64.wrap ((X : Int) + 1) = ((X + 1 : Nat) : Int) := by rw [IntKind.wrap_u64]; omega
          cases c
          · go_wp2
            refine ⟨⟨j + 1, i, X + 1, ad, cap, rfl, by go_num, by omega, ?_, ?_, ?_, Hw⟩, ?_⟩
            · show _ = _
              rw [HP.out]
              exact HN.out
            · have := HX.out
              show _ = _
              omega
            · have h1 := Ho.out
              rw [HP.out]
              exact h1
            · simp [intOf]; omega
          · obtain ⟨i0, hi0, hz0, hz1, hz2⟩ := info_parts Tryd.info64
            have hsz : Hid (W.heap.size ≤ (wr.alloc (.cells #[.int .u64 (X : Int)] 65)).heap.size) := (by have := Hw.out.size; show _ ≤ _; rw [World.size_alloc]; omega)
            go_wp2_with (first | (at_builtin; refine wpList_append_lies _ rfl _ _ 64 rfl W.heap.size 65 i0 _ 1 8 Tryd.underlying64 hi0 hz0 hz1 hz2 rfl (by omega) (.slice ad i cap) i (c64 (prm j)) rfl (World.ownsRow.alloc Ho.out _) ⟨wr.heap.size, 0, none⟩ 1 1 [.int .u64 (X : Int)] rfl rfl (World.news_of_block (heap_alloc_new wr _)) (by simp [Value.oneCell']) (by omega) (by unfold maxLen; omega) (by omega) hsz.out _ rfl ?_; intro g3 cap3 w3 hown3 hg3 hat3 hlt3; have HO3 : Hid _ := hown3; have HG3 : Hid _ := hg3; clear hown3 hg3 hat3 hlt3) | fail)
            refine ⟨⟨j + 1, i + 1, X + 1, some ⟨g3, 0, none⟩, cap3, rfl, by go_num, by omega, ?_, ?_, ?_, ?_⟩, ?_⟩
            · have h1 := HN.out
              show _ = _
              rw [HP.out, if_pos rfl, List.length_append, ← h1]
              rfl
            · have := HX.out
              show _ = _
              omega
            · have h1 := HO3.out
              rw [HP.out, if_pos rfl, c64_app]
              exact h1
            · exact (Hw.out.alloc Hw.out.size _).grown HG3.out (by have := Hw.out.size; rw [World.size_alloc]; omega) fun k e => (World.ownsRow.lt Ho.out k e).1
            · simp [intOf]; omega
    · obtain rfl : j = 310 := by omega
      have h64 : N = 64 := by rw [HN.out, prm_310]; rfl
      subst h64
      obtain ⟨g, rfl, hcell, hgl⟩ : ∃ g, ad = some ⟨g, 0, none⟩ ∧ (∀ i (hi : i < 64), wr.cell? ⟨g, i, none⟩ = some (.int .u64 ((primes[i]'hi : Nat) : Int))) ∧ g < wr.heap.size := by
        rcases Ho.out.2 with ⟨e, e0⟩ | ⟨g, cap', cur, e, _, hg, h1, h2, h3, h4⟩
        · omega
        · injection e with e1 e2 e3
          refine ⟨g, e1, fun i hi => ?_, block_lt hg⟩
          rw [cell_of_row _ _ _ _ _ _ hg, ← Array.getElem?_toList]
          have h5 : (c64 (prm 310))[i]? = some (.int .u64 ((primes[i]'hi : Nat) : Int)) := by
            rw [prm_310]
            simp [c64]
            exact ⟨_, List.getElem?_eq_getElem hi, rfl⟩
          rw [← h4, List.getElem?_take, if_pos (by omega)] at h5
          exact h5
      have HC : Hid (∀ i (hi : i < 64), wr.cell? ⟨g, i, none⟩ = some (.int .u64 ((primes[i]'hi : Nat) : Int))) := hcell
      clear hcell Ho HN HX
      obtain ⟨V, hV⟩ : ∃ V, V = wr := ⟨_, rfl⟩
      rw [← hV] at HC hgl Hw
      go_wp2
      rw [← hV]
      clear hV wr
      go_loopw [7] (fun iv wr => ∃ (i : Nat), iv = .int .i64 (i : Int) ∧ i ≤ 64 ∧ Hid (Below V.heap.size V wr)) (fun iv _ => 64 - (intOf iv).toNat)
      case atStart => exact ⟨0, rfl, by omega, Below.refl _ _⟩
      case round =>
        obtain ⟨i, rfl, hi, Hw2⟩ := hrel
        by_cases hil : i < 64
        · have q1 : (i : Int) < 64 := by omega
          have q1b : (0 : Int) ≤ i := by omega
          obtain ⟨y, hy⟩ : ∃ y : Nat, y = primes[i]'hil := ⟨_, rfl⟩
          have hlt2 : g < wr.heap.size := Nat.lt_of_lt_of_le hgl Hw2.out.size
          have hkl : w5.heap.size < V.heap.size := Nat.lt_of_lt_of_le HAk.out.one Hw.out.size
          have hsl : w4.heap.size < V.heap.size := Nat.lt_of_lt_of_le HAs.out.one Hw.out.size
          have cl : wr.cell? ⟨g, i, none⟩ = some (.int .u64 (y : Int)) := by
            rw [Hw2.out.cell (p := ⟨g, i, none⟩) hgl, hy]
            exact HC.out i hil
          obtain ⟨r3, hr3⟩ : ∃ r3 : Nat, r3 = root y 3 := ⟨_, rfl⟩
          have e3 : (rounds[i]'hil : Nat) = r3 := by rw [hr3, hy]; exact root3_at i hil
          have ck : wr.cell? ⟨w5.heap.size, i, none⟩ = some (.int .u32 (r3 : Int)) := by
            rw [Hw2.out.cell (p := ⟨w5.heap.size, i, none⟩) hkl, Hw.out.cell (p := ⟨w5.heap.size, i, none⟩) HAk.out.one, ← e3]
            exact HAk.out.cell (i := i) hil
          have cl2 := cell_regrown cl
          have ck2 := cell_regrown ck
          have h3 : ∀ W, Calls Tryd.prog 33 #[.int .u64 (y : Int), .int .i64 3] W fun e w' => e = .returned (.int .u32 (r3 : Int)) ∧ Below W.heap.size W w' := fun W => by rw [hr3]; exact Tryd.root_any y 3 (by decide) W
          by_cases hi8 : i < 8
          · have q2 : (i : Int) < 8 := by omega
            obtain ⟨r2, hr2⟩ : ∃ r2 : Nat, r2 = root y 2 := ⟨_, rfl⟩
            have e2 : (Dg.start.l[i]'hi8 : Nat) = r2 := by rw [hr2, hy]; exact root2_at i hi8
            have cs : wr.cell? ⟨w4.heap.size, i, none⟩ = some (.int .u32 (r2 : Int)) := by
              rw [Hw2.out.cell (p := ⟨w4.heap.size, i, none⟩) hsl, Hw.out.cell (p := ⟨w4.heap.size, i, none⟩) HAs.out.one, ← e2]
              exact HAs.out.cell (i := i) hi8
            have cs2 := cell_regrown cs
            have h2 : ∀ W, Calls Tryd.prog 33 #[.int .u64 (y : Int), .int .i64 2] W fun e w' => e = .returned (.int .u32 (r2 : Int)) ∧ Below W.heap.size W w' := fun W => by rw [hr2]; exact Tryd.root_any y 2 (by decide) W
            clear hy cs ck cl hr2 hr3 e2 e3
            go_wp2_with (fail)
            refine wp_region_quiet_below (by kernel_rfl) (by kernel_rfl) ?_
            repeat (quiet_step (first | (go_at_call_of 33 (Value.int IntKind.i64 3); exact Calls.regrown_of (h3 _)) | (go_at_call_of 33 (Value.int IntKind.i64 2); exact Calls.regrown_of (h2 _))))
            refine wpQuiet_nil ?_
            intro _ hw'
            obtain ⟨⟨d, os⟩, hw''⟩ := hw'
            subst hw''
            have HG : Hid (Below V.heap.size V (grow (redrawn wr d) os)) := Hw2.out.trans ((below_regrown wr d os).mono Hw2.out.size)
            clear Hw2 cl2 ck2 cs2
            go_wp2
            refine ⟨⟨i + 1, by go_num, by omega, HG⟩, ?_⟩
            simp [intOf]; omega
          · have q2 : decide ((i : Int) < 8) = false := by simp; omega
            clear hy ck cl hr3 e3
            go_wp2_with (fail)
            refine wp_region_quiet_below (by kernel_rfl) (by kernel_rfl) ?_
            iterate 12 (quiet_step (first | (go_at_call_of 33 (Value.int IntKind.i64 3); exact Calls.regrown_of (h3 _)) | fail))
            refine q_yes (v := .bool false) (by kernel_rfl) (fun w' _ => by kernel_rfl) ?_
            generalize hA : Act.put _ _ _ = A
            have x52 : A.tmps[52]? = some (.bool false) := by rw [← hA]; rfl
            refine q_tail 9 (by kernel_rfl) (by kernel_rfl) x52 ?_
            generalize hB : List.foldl _ _ _ = B
            simp only [List.drop_succ_cons, List.drop_zero]
            refine q_yes (v := .bool false) (by rw [← hB, ← hA]; kernel_rfl) (fun w' _ => by rw [← hB, ← hA]; kernel_rfl) ?_
            generalize hD : Act.put B _ _ = D
            refine q_yes (v := .bool false) (by rw [← hD, ← hB, ← hA]; kernel_rfl) (fun w' _ => by rw [← hD, ← hB, ← hA]; kernel_rfl) ?_
            refine wpQuiet_nil ?_
            intro _ hw'
            obtain ⟨⟨d, os⟩, hw''⟩ := hw'
            subst hw''
            have HG : Hid (Below V.heap.size V (grow (redrawn wr d) os)) := Hw2.out.trans ((below_regrown wr d os).mono Hw2.out.size)
            clear Hw2 cl2 ck2 x52
            simp only [List.take_succ_cons, List.take_zero, List.foldl_cons, List.foldl_nil, Act.put, List.setIfInBounds_toArray, List.set_cons_succ, List.set_cons_zero] at hA hB hD ⊢
            subst hA
            simp only [List.setIfInBounds_toArray, List.set_cons_succ, List.set_cons_zero] at hB
            subst hB
            simp only [List.setIfInBounds_toArray, List.set_cons_succ, List.set_cons_zero] at hD
            subst hD
            simp only [List.setIfInBounds_toArray, List.set_cons_succ, List.set_cons_zero]
            go_wp2
            refine ⟨⟨i + 1, by go_num, by omega, HG⟩, ?_⟩
            simp [intOf]; omega
        · have q1 : ¬ (i : Int) < 64 := by omega
          go_wp2
          go_ret
          exact ⟨rfl, HWb.out.trans ((Hw.out.trans (Hw2.out.mono Hw.out.size)).mono HWb.out.size)⟩
end Go.Proofs
