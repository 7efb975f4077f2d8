/-
  QueueStays: its walk.
-/
import Derived.Test.YtfchhiphjebkfaaQn
import Derived.Test.YtfchhiphjebkfaaQi
import Derived.Test.YtfchhiphjebkfaaQIn
import Derived.Sort.CutIn
import Derived.Stop.RegionWithIn
namespace Go.Proofs
open Go.RowKit Go.Wi Go.Qu
attribute [local go_sem] Oper.semAt_some Qu.run_store_fn
set_option maxRecDepth 100000 in
set_option maxHeartbeats 16000000 in
theorem Try.stays_in (n : Nat) (hn : 7 ≤ n) (size : Int) (h1a : -9223372036854775808 ≤ size) (h1b : size ≤ 9223372036854775807) (v1 v2 : Value) (l1 l2 : List Int) (w : World) (hI1 : Qu.Iv w v1 l1) (hI2 : Qu.Iv w v2 l2) (hL1 : l1.length ≤ 140737488351232) (hL2 : l2.length ≤ 140737488351232) :
    CallsIn Fence.wide n Try.prog 6 #[.int .i64 size, v1, v2] w fun e W' => e = .returned (.bool true) ∧ Below w.heap.size w W' := by
  have h1 : 1 ≤ n := by omega
  have hmx : Try.prog.follows .mixedOrders = true := by kernel_rfl
  have hnil : ∀ p w, (binOp .eql 44 (.func (.func 27) #[] #[p]) .nilFunc).run Try.prog w = .ok (.bool false) w := fun _ _ => by kernel_rfl
  obtain ⟨⟨a1, c1, rfl, hv1⟩, _⟩ := hI1
  obtain ⟨⟨a2, c2, rfl, hv2⟩, _⟩ := hI2
  refine callsIn_of_wp_marks Try.func6 rfl trivial ?_ rfl
  simp only [Try.ntmps6, List.size_toArray, List.length_cons, List.length_nil, Nat.reduceAdd, Nat.reduceSub, Array.replicate_succ, Array.replicate_zero, List.push_toArray, List.append_toArray, List.nil_append, List.cons_append]
  gi_wp2_with fail
  have hb0 : Below w.heap.size w (((w.alloc (.cells #[.slice a1 l1.length c1] 22)).alloc (.cells #[.slice a2 l2.length c2] 22)).alloc (.cells #[.bool false] 4)) := (((Below.refl _ w).alloc (Nat.le_refl _) _).alloc (by simp) _).alloc (by simp; omega) _
  have q1 := ((Boxed.new w 22 (.slice a1 l1.length c1)).alloc (.cells #[.slice a2 l2.length c2] 22)).alloc (.cells #[.bool false] 4)
  have q2 := (Boxed.new (w.alloc (.cells #[.slice a1 l1.length c1] 22)) 22 (.slice a2 l2.length c2)).alloc (.cells #[.bool false] 4)
  have q3 := Boxed.new ((w.alloc (.cells #[.slice a1 l1.length c1] 22)).alloc (.cells #[.slice a2 l2.length c2] 22)) 4 (.bool false)
  simp only [World.size_alloc] at q2 q3
  have z0 : (((w.alloc (.cells #[.slice a1 l1.length c1] 22)).alloc (.cells #[.slice a2 l2.length c2] 22)).alloc (.cells #[.bool false] 4)).heap.size = w.heap.size + 3 := by simp
  generalize ((w.alloc (.cells #[.slice a1 l1.length c1] 22)).alloc (.cells #[.slice a2 l2.length c2] 22)).alloc (.cells #[.bool false] 4) = w0 at *
  refine ⟨trivial, (callsIn_wide.2 (Try.shown_any _)).mono ?_⟩
  rintro e w1 ⟨rfl, b1⟩
  have p1 : Boxed w1 w.heap.size 22 (.slice a1 l1.length c1) := (b1.block _ q1.lt).trans q1
  have p2 : Boxed w1 (w.heap.size + 1) 22 (.slice a2 l2.length c2) := (b1.block _ q2.lt).trans q2
  have p3 : Boxed w1 (w.heap.size + 1 + 1) 4 (.bool false) := (b1.block _ q3.lt).trans q3
  have z1 : w.heap.size + 3 ≤ w1.heap.size := by have := b1.size; omega
  have hB1 : Below w.heap.size w w1 := hb0.trans (b1.mono (by omega))
  clear q1 q2 q3 hb0 b1 z0
  gi_upto_if 24 with (fail)
  gi_cut [8] from 22 (fun v wx => ∃ N : Int, 0 ≤ N ∧ N ≤ 9223372036854775807 ∧ v = .int .i64 N ∧ w1 = wx)
  case first =>
    by_cases hc : size < 0
    all_goals
      gi_wp2_with (fail)
      gi_meet
      case rel => exact ⟨_, by omega, by omega, rfl, rfl⟩
  case rest =>
    obtain ⟨N1, n1a, n1b, rfl, rfl⟩ := hcut
    gi_upto_region 6 with (fail)
    obtain ⟨N, hN⟩ : ∃ N : Nat, 1 + N1 % 20 = (N : Int) := ⟨(1 + N1 % 20).toNat, by omega⟩
    have hN1 : 1 ≤ N := by omega
    have hN2 : N ≤ 20 := by omega
    rw [hN]
    clear hN n1a n1b
    gi_wp2_with fail
    refine ⟨trivial, (callsIn_wide.2 (Try.newI (N : Int) 1 1 (by omega) (by omega) (by omega) (by omega) (by omega) _)).mono ?_⟩
    rintro e w2 ⟨b, rfl, hQ2, b2⟩
    gi_wp2_with fail
    have z2 := b2.size
    have st0 : ∃ own d, Try.QuI (w2.alloc (.cells #[.pointer (some ⟨b, 0, none⟩)] 24)) own b ⟨N, 1, 1, Qu.lastOf l1 N 0, 0, 0, d⟩ ∧ (∀ k, own k → w1.heap.size ≤ k) ∧ ¬ own w2.heap.size :=
      ⟨fun k => w1.heap.size ≤ k ∧ k < w2.heap.size, 0, by rw [show Qu.lastOf l1 N 0 = [] by simp [Qu.lastOf]]; exact hQ2.below ((Below.refl _ w2).alloc (Nat.le_refl _) _), fun k e => e.1, fun e => by have := e.2; omega⟩
    have st1 : Boxed (w2.alloc (.cells #[.pointer (some ⟨b, 0, none⟩)] 24)) w2.heap.size 24 (.pointer (some ⟨b, 0, none⟩)) := Boxed.new w2 _ _
    have st2 : Below w1.heap.size w1 (w2.alloc (.cells #[.pointer (some ⟨b, 0, none⟩)] 24)) := b2.alloc z2 _
    have HV1 : Hid (l1 = [] ∨ ∃ g o, a1 = some ⟨g, o, none⟩ ∧ g < w.heap.size ∧ ∀ j (hj : j < l1.length), w.cell? ⟨g, o + j, none⟩ = some (.int .i64 l1[j])) := hv1
    have HV2 : Hid (l2 = [] ∨ ∃ g o, a2 = some ⟨g, o, none⟩ ∧ g < w.heap.size ∧ ∀ j (hj : j < l2.length), w.cell? ⟨g, o + j, none⟩ = some (.int .i64 l2[j])) := hv2
    have HL1 : Hid _ := hL1
    have HL2 : Hid _ := hL2
    clear hv1 hv2 hL1 hL2 hQ2 b2
    refine Qu.np (wpIn_wide.2 ?_)
    go_loopw [11] (fun iv wr => ∃ i : Nat, iv = .int .i64 i ∧ i ≤ l1.length ∧ (∃ own d, Try.QuI wr own b ⟨N, 1, 1, Qu.lastOf l1 N i, 0, 0, d⟩ ∧ (∀ k, own k → w1.heap.size ≤ k) ∧ ¬ own w2.heap.size) ∧ Boxed wr w2.heap.size 24 (.pointer (some ⟨b, 0, none⟩)) ∧ Below w1.heap.size w1 wr) (fun iv _ => l1.length - (intOf iv).toNat)
    case atStart => exact ⟨0, rfl, by omega, st0, st1, st2⟩
    case round =>
      obtain ⟨i, rfl, hil, ⟨own, d, hQ, ho1, ho2⟩, hbx, hbel⟩ := hrel
      clear st0 st1 st2
      have e1 := hbx.cell
      have r4 : Boxed wr w.heap.size 22 (.slice a1 l1.length c1) := (hbel.block _ (by omega)).trans p1
      have e2 := r4.cell
      by_cases hi : i < l1.length
      · have q1 : (i : Int) < (l1.length : Int) := by omega
        have hi0 : (0 : Int) ≤ (i : Int) := by omega
        rcases HV1.out with h0 | ⟨g0, o, rfl, hg0, hcells⟩
        · rw [h0] at hi; simp at hi
        have e3 : wr.cell? ⟨g0, o + i, none⟩ = some (.int .i64 l1[i]) := ((hB1.trans (hbel.mono (by omega))).cell (p := ⟨g0, o + i, none⟩) hg0).trans (hcells i hi)
        have hln := Qu.lastOf_len (n := N) hil
        have hput : ∃ y gg, Calls Try.prog 12 #[.pointer (some ⟨b, 0, none⟩), .int .i64 l1[i]] wr.drew fun e w' => e = .returned (.tuple #[.int .i64 y, .bool gg]) ∧ ∃ d', Try.QCI own wr.drew w' b ⟨N, 1, 1, Qu.lastOf l1 N (i + 1), 0, 0, d'⟩ := by
          have hQd := hQ.keep (w' := wr.drew) (fun _ _ => rfl) (Nat.le_refl _)
          by_cases hf : N ≤ i
          · obtain ⟨y, r, hl, hr⟩ := Qu.lastOf_full hi hf (by omega)
            have := Try.putFullI hQd l1[i] hl (by simp only [hln]; omega)
            rw [hr] at this
            exact ⟨y, true, this.mono fun e w' ⟨x1, x2⟩ => ⟨x1, _, x2⟩⟩
          · have := Try.putRoomI hQd l1[i] (by simp only [hln]; omega)
            rw [Qu.lastOf_room hi (by omega)] at this
            exact ⟨0, false, this.mono fun e w' ⟨x1, x2⟩ => ⟨x1, _, x2⟩⟩
        obtain ⟨y, gg, hput⟩ := hput
        have HNX : Hid (∀ w' d', Try.QCI own wr.drew w' b ⟨N, 1, 1, Qu.lastOf l1 N (i + 1), 0, 0, d'⟩ → (∃ own d, Try.QuI w' own b ⟨N, 1, 1, Qu.lastOf l1 N (i + 1), 0, 0, d⟩ ∧ (∀ k, own k → w1.heap.size ≤ k) ∧ ¬ own w2.heap.size) ∧ Boxed w' w2.heap.size 24 (.pointer (some ⟨b, 0, none⟩)) ∧ Below w1.heap.size w1 w') := fun w' d' hc => by
          obtain ⟨own', x1, x2⟩ := hc.ex
          have hlt := hbx.lt
          have hs : w1.heap.size ≤ wr.heap.size := hbel.size
          refine ⟨⟨own', d', x1, fun k e => ?_, fun e => ?_⟩, (hc.wo.block _ hlt ho2).trans hbx, Wo.toBelow hbel.drew hc.wo ho1 hs⟩
          · rcases x2 k e with e4 | e4
            · exact ho1 k e4
            · exact Nat.le_trans hs e4
          · rcases x2 _ e with e4 | e4
            · exact ho2 e4
            · exact absurd hlt (Nat.not_lt.2 e4)
        clear hQ ho1 ho2 hbx hbel r4 hcells hln
        have HI : Hid (i + 1 ≤ l1.length) := hi
        have j4 : (i : Int) + 1 ≤ 140737488351232 := by have := HL1.out; omega
        generalize l1[i] = x at *
        go_wp2
        go_region_with (first | (go_at_call 12; refine hput.mono ?_; rintro e w4 ⟨rfl, d4, h4⟩; have HN4 : Hid _ := HNX.out _ _ h4; clear h4) | fail)
        all_goals
          go_wp2
          go_roundw
          case rel => exact ⟨i + 1, by go_num, HI.out, HN4.out⟩
          case measure => have := HI.out; simp [intOf]; omega
      · obtain rfl : i = l1.length := by omega
        have q1 : ¬ (l1.length : Int) < (l1.length : Int) := by omega
        rw [Qu.lastOf_all] at hQ
        obtain ⟨F, hF⟩ : ∃ F : Nat, F = l1.length - N := ⟨_, rfl⟩
        rw [← hF] at hQ
        have HF : Hid (F = l1.length - N) := hF
        clear hF
        have HQ : Hid _ := hQ
        have hl1 := HL1.out
        clear hQ
        go_wp2
        gi_upto_if 63 with (fail)
        gi_cut [] from 62 (fun wx => Boxed wx wr.heap.size 3 (.int .i64 (F : Int)) ∧ Below wr.heap.size wr wx)
        case first =>
          by_cases hc : (l1.length : Int) - N < 0
          · have hF0 : Hid (F = 0) := (by have := HF.out; omega : F = 0)
            have y1 := (Boxed.new wr 3 (.int .i64 ((l1.length : Int) - N))).frozen
            gi_wp2_with (fail)
            gi_meet
            case rel => exact ⟨by rw [hF0.out]; exact Boxed.new wr 3 _, (Below.refl _ wr).alloc (Nat.le_refl _) _⟩
          · gi_wp2_with (fail)
            gi_meet
            case rel => exact ⟨by rw [show (F : Int) = (l1.length : Int) - N by have := HF.out; omega]; exact Boxed.new wr 3 _, (Below.refl _ wr).alloc (Nat.le_refl _) _⟩
        case rest =>
          obtain ⟨bf, b3⟩ := hcut
          have z3 := b3.size
          have hlb := hbx.lt
          have hQ3 := HQ.out.below b3
          have bq3 := Qu.boxed_low hbx b3
          have hB3 : Below w1.heap.size w1 wc := hbel.trans (b3.mono hbel.size)
          have c9 := bq3.cell
          clear e1 e2 q1 r4
          gi_wp2_with fail
          refine ⟨trivial, (callsIn_wide.2 (Try.allI hQ3)).mono ?_⟩
          rintro e w5 ⟨x, rfl, hS5, b5⟩
          have z5 := b5.size
          have c5 := (b5.cell (p := ⟨w2.heap.size, 0, none⟩) (by show w2.heap.size < wc.heap.size; omega)).trans c9
          have b6 : Below w5.heap.size w5 (w5.alloc (.cells #[.func (.func 27) #[] #[.pointer (some ⟨x, 0, none⟩)]] 44)) := (Below.refl _ w5).alloc (Nat.le_refl _) _
          have bl6 : Boxed (w5.alloc (.cells #[.func (.func 27) #[] #[.pointer (some ⟨x, 0, none⟩)]] 44)) w5.heap.size 44 (.func (.func 27) #[] #[.pointer (some ⟨x, 0, none⟩)]) := Boxed.new w5 _ _
          have z6 : (w5.alloc (.cells #[.func (.func 27) #[] #[.pointer (some ⟨x, 0, none⟩)]] 44)).heap.size = w5.heap.size + 1 := by simp
          have hW6 : Try.QW (w5.alloc (.cells #[.func (.func 27) #[] #[.pointer (some ⟨x, 0, none⟩)]] 44)) own b (w5.alloc (.cells #[.func (.func 27) #[] #[.pointer (some ⟨x, 0, none⟩)]] 44)) := Try.QW.start ((hQ3.below b5).below b6)
          have c6 := (b6.cell (p := ⟨w2.heap.size, 0, none⟩) (by show w2.heap.size < w5.heap.size; omega)).trans c5
          clear c9
          gi_wp2_with fail
          clear c5
          generalize w5.alloc (.cells #[.func (.func 27) #[] #[.pointer (some ⟨x, 0, none⟩)]] 44) = w6 at *
          refine ⟨trivial, (callsIn_wide.2 (hW6.put 77)).mono ?_⟩
          rintro e w7 ⟨⟨y7, g7, rfl⟩, hW7⟩
          have bq6 : Boxed w6 w2.heap.size 24 (.pointer (some ⟨b, 0, none⟩)) := (b6.block _ (by omega)).trans ((b5.block _ (by omega)).trans bq3)
          have c7 := (Qu.boxed_wo bq6 hW7.wo ho2).cell
          gi_wp2_with fail
          refine ⟨trivial, (callsIn_wide.2 hW7.done).mono ?_⟩
          rintro e w8 ⟨⟨y8, rfl⟩, hW8⟩
          have c8 := (Qu.boxed_wo bq6 hW8.wo ho2).cell
          clear c6 c7
          gi_wp2_with fail
          refine ⟨trivial, (callsIn_wide.2 (hW8.put 78)).mono ?_⟩
          rintro e w9 ⟨⟨y9, g9, rfl⟩, hW9⟩
          have hlf := bf.lt
          have how : ∀ k, own k → w1.heap.size ≤ k ∧ k < wr.heap.size := fun k e => ⟨ho1 k e, HQ.out.lt k e⟩
          have bf6 : Boxed w6 wr.heap.size 3 (.int .i64 (F : Int)) := (b6.block _ (by omega)).trans ((b5.block _ (by omega)).trans bf)
          have bf9 := Qu.boxed_wo bf6 hW9.wo (fun e => by have := how _ e; omega)
          have bl9 := Qu.boxed_wo bl6 hW9.wo (fun e => by have := how _ e; omega)
          have c10 := bf9.cell
          clear c8
          have hB6 : Below w1.heap.size w1 w6 := hB3.trans ((b5.trans (b6.mono z5)).mono hB3.size)
          have hB9 : Below w1.heap.size w1 w9 := Wo.toBelow hB6 hW9.wo (fun k e => (how k e).1) hB6.size
          have bS9 : Below w9.heap.size w9 ((w9.alloc (.cells #[.int .i64 (F : Int)] 3)).alloc (.cells #[.int .i64 0] 3)) := ((Below.refl _ w9).alloc (Nat.le_refl _) _).alloc (by simp) _
          have hR0 := hW9.boxes (F : Int) 0
          have zS : ((w9.alloc (.cells #[.int .i64 (F : Int)] 3)).alloc (.cells #[.int .i64 0] 3)).heap.size = w9.heap.size + 2 := by simp
          have z9 := hW9.wo.size
          have hSS := hS5.keep (w' := (w9.alloc (.cells #[.int .i64 (F : Int)] 3)).alloc (.cells #[.int .i64 0] 3)) ⟨by omega, fun k e => (bS9.block k (by omega)).trans ((hW9.wo.block k (by omega) (fun e1 => by have := how _ e1; omega)).trans (b6.block k e.2))⟩
          have bqS := Qu.boxed_low (Qu.boxed_wo bq6 hW9.wo ho2) bS9
          have bfS := Qu.boxed_low bf9 bS9
          have blS := Qu.boxed_low bl9 bS9
          have c11 := blS.cell
          gi_wp2_with fail
          have hBS := hB9.trans (bS9.mono hB9.size)
          obtain ⟨oq, hoqd⟩ : ∃ oq : Nat → Prop, oq = fun k => (own k ∨ w6.heap.size ≤ k) ∧ k < w9.heap.size := ⟨_, rfl⟩
          rw [← hoqd] at hR0
          have hoq : ∀ k, k < w1.heap.size ∨ k = w2.heap.size ∨ k = wr.heap.size ∨ wc.heap.size ≤ k ∧ k < w6.heap.size → ¬ (k = w9.heap.size ∨ k = w9.heap.size + 1 ∨ oq k) := fun k e h => by
            rw [hoqd] at h
            rcases h with h | h | ⟨h | h, _⟩
            · omega
            · omega
            · have h4 := how k h
              rcases e with e | e | e | e
              · omega
              · subst e; exact ho2 h
              · omega
              · omega
            · omega
          have hok : ¬ oq w9.heap.size := fun e => by rw [hoqd] at e; exact absurd e.2 (Nat.lt_irrefl _)
          have hot : ¬ oq (w9.heap.size + 1) := fun e => by rw [hoqd] at e; have := e.2; omega
          have hol : ∀ k, k = w9.heap.size ∨ k = w9.heap.size + 1 ∨ oq k → w1.heap.size ≤ k := fun k e => Nat.le_of_not_lt fun h => hoq k (.inl h) e
          have hxl : F + (l1.drop F).length = l1.length := by have := HF.out; rw [List.length_drop]; omega
          have hxN : (l1.drop F).length ≤ 1000000 := by have := HF.out; rw [List.length_drop]; omega
          have hxi : ∀ i : Nat, (l1.drop F)[i]? = l1[F + i]? := fun i => List.getElem?_drop
          generalize (w9.alloc (.cells #[.int .i64 (F : Int)] 3)).alloc (.cells #[.int .i64 0] 3) = wS at *
          generalize l1.drop F = xs at *
          have hX : ∀ X kv tv, Try.R1 wS oq b w9.heap.size (w9.heap.size + 1) kv tv X → Below w1.heap.size w1 X ∧ Boxed X w2.heap.size 24 (.pointer (some ⟨b, 0, none⟩)) ∧ Boxed X wr.heap.size 3 (.int .i64 (F : Int)) ∧ Boxed X w5.heap.size 44 (.func (.func 27) #[] #[.pointer (some ⟨x, 0, none⟩)]) ∧ Kp (fun k => wc.heap.size ≤ k ∧ k < w5.heap.size) wS X := fun X kv tv h =>
            ⟨Wo.toBelow hBS h.wo hol hBS.size, Qu.boxed_wo bqS h.wo (hoq _ (by omega)), Qu.boxed_wo bfS h.wo (hoq _ (by omega)), Qu.boxed_wo blS h.wo (hoq _ (by omega)), ⟨h.wo.size, fun k e => h.wo.block k (by omega) (hoq k (by omega))⟩⟩
          have hKp : ∀ X Y kv tv kv' tv', Try.R1 wS oq b w9.heap.size (w9.heap.size + 1) kv tv X → Try.R1 wS oq b w9.heap.size (w9.heap.size + 1) kv' tv' Y → X.heap.size ≤ Y.heap.size → Kp (fun k => wc.heap.size ≤ k ∧ k < w5.heap.size) X Y := fun X Y kv tv kv' tv' h h' hs =>
            ⟨hs, fun k e => ((hX Y kv' tv' h').2.2.2.2.block k e).trans ((hX X kv tv h).2.2.2.2.block k e).symm⟩
          have HX : Hid _ := hX
          have HKP : Hid _ := hKp
          have hk9 : w9.heap.size < wS.heap.size := by omega
          have ht9 : w9.heap.size + 1 < wS.heap.size := by omega
          clear hX hKp hoqd hoq hol how ho1 ho2 c10 c11 bqS bfS blS bf9 bl9 bf6 bq6 bl6 bq3 bf hQ3 HQ hS5 hW6 hW7 hW8 hW9 b3 b5 b6 hB3 hB6 hB9 hbx hbel bS9 hl1
          gi_frame FR1 [74, 16] (fun y => Value.int .i64 y)
          refine Qu.cutD (fun D X => wS.heap.size ≤ D ∧ X.heap[D]? = some (.deferred (some [])) ∧ Try.R1 wS oq b w9.heap.size (w9.heap.size + 1) ((F + xs.length : Nat) : Int) (xs.length : Int) X) ?range1 ?rest1
          case range1 =>
            refine wpIn_rangeFunc_ownF rfl h1 (gf := 27) (lb := #[.pointer (some ⟨x, 0, none⟩)]) rfl trivial (enters_of Try.func27 (by kernel_rfl) rfl)
              (Try.seqI (n - 1) (by omega) x (fun k => wc.heap.size ≤ k ∧ k < w5.heap.size) xs hxN _ hSS) Kp_t (Kp_b (fun k e => by omega)) (Below.refl _ _) (fun _ => rfl)
              (fun pre X => Try.R1 wS oq b w9.heap.size (w9.heap.size + 1) ((F + pre.length : Nat) : Int) (pre.length : Int) X)
              (fun c pre _ => c = .ret ∧ ¬ pre <+: xs)
              (Try.R1.own (β := List Int) wS oq b w9.heap.size (w9.heap.size + 1) (fun pre => ((F + pre.length : Nat) : Int)) (fun pre => (pre.length : Int))) (fun _ _ _ _ _ h _ _ => h) hR0 ?FR1 ?assign ?body ?done ?stop
            case assign =>
              intro l y X K hK
              gi_wp2
              exact hK
            case body =>
              intro l pre y X hR hlt
              obtain ⟨K, hK⟩ : ∃ K : Nat, K = F + pre.length := ⟨_, rfl⟩
              have HKe : Hid (K = F + pre.length) := hK
              rw [← hK] at hR
              obtain ⟨x1, x2, x3, x4, _⟩ := HX.out X _ _ hR
              have hKl : K < l1.length := by omega
              clear hK
              rcases HV1.out with h0 | ⟨g0, o0, rfl, hg0, hcells⟩
              · rw [h0] at hKl; simp at hKl
              have hno : y ≠ l1[K] → ¬ pre ++ [y] <+: xs := fun hx hp => hx (by
                have hzz : xs[pre.length]? = some l1[K] := by rw [hxi, ← HKe.out, List.getElem?_eq_getElem hKl]
                obtain ⟨u, hu⟩ := hp
                rw [← hu] at hzz
                simpa using hzz)
              have Hno : Hid _ := hno
              have fin : ∀ Z, Try.R1 wS oq b w9.heap.size (w9.heap.size + 1) ((K : Int) + 1) ((pre.length : Int) + 1) Z → KeepsOthers X Z → KeepsOthers X Z ∧ Kp (fun k => wc.heap.size ≤ k ∧ k < w5.heap.size) X Z ∧ Try.R1 wS oq b w9.heap.size (w9.heap.size + 1) ((F + (pre ++ [y]).length : Nat) : Int) ((pre ++ [y]).length : Int) Z := fun Z h h' =>
                ⟨h', HKP.out X Z _ _ _ _ hR h h'.size, by rw [List.length_append, List.length_singleton, ← Nat.add_assoc, ← HKe.out]; exact h⟩
              have Fin : Hid _ := fin
              have d1 := hR.bk.cell
              have d2 := hR.bk.frozen
              have e1 : X.cell? ⟨w.heap.size, 0, none⟩ = some (.slice (some ⟨g0, o0, none⟩) l1.length c1) := (x1.cell (p := ⟨w.heap.size, 0, none⟩) (by show w.heap.size < w1.heap.size; omega)).trans p1.cell
              have e2 : X.cell? ⟨g0, o0 + K, none⟩ = some (.int .i64 l1[K]) := ((hB1.trans (x1.mono (by omega))).cell (p := ⟨g0, o0 + K, none⟩) hg0).trans (hcells K hKl)
              have g4 : Boxed X (w.heap.size + 1 + 1) 4 (.bool false) := (x1.block _ (by omega)).trans p3
              have e4 := g4.cell
              have e5 := g4.frozen
              have j1 : ¬ (l1.length : Int) ≤ (K : Int) := by omega
              have j2 : (K : Int) < (l1.length : Int) := by omega
              have j3 : (0 : Int) ≤ (K : Int) := by omega
              have j4 : (K : Int) + 1 ≤ 140737488351232 := by have := HL1.out; omega
              have hRk := hR.setk hok hk9 (by omega) ((K : Int) + 1)
              have kx := KeepsOthers.setCell X ⟨w9.heap.size, 0, none⟩ (.int .i64 ((K : Int) + 1))
              have HRk : Hid _ := hRk
              have Hkx : Hid _ := kx
              clear hno fin hcells x1 x2 x3 x4 hRk kx g4 hR hSS hR0 hBS
              generalize l1[K] = z at *
              by_cases hy : y = z
              · subst hy
                clear Hno
                gi_upto_region 27 with (fail)
                have hRk := HRk.out
                have kx := Hkx.out
                clear d1 d2 e1 e2 e4 e5 j1 j2 j3 HRk Hkx
                generalize X.setCell ⟨w9.heap.size, 0, none⟩ (.int .i64 ((K : Int) + 1)) = Y at *
                obtain ⟨y1, y2, _, _, _⟩ := HX.out Y _ _ hRk
                have f1 := y2.cell
                have f2 : Y.cell? ⟨w.heap.size + 1, 0, none⟩ = some (.slice a2 l2.length c2) := (y1.cell (p := ⟨w.heap.size + 1, 0, none⟩) (by show w.heap.size + 1 < w1.heap.size; omega)).trans p2.cell
                have f3 := hRk.bt.cell
                have f4 := hRk.bt.frozen
                have j5 : (pre.length : Int) + 1 ≤ 1000001 := by omega
                have j6 : (0 : Int) ≤ (pre.length : Int) := by omega
                by_cases ht : pre.length < l2.length
                · rcases HV2.out with h0 | ⟨g5, o5, rfl, hg5, hcells5⟩
                  · rw [h0] at ht; simp at ht
                  have f5 : Y.cell? ⟨g5, o5 + pre.length, none⟩ = some (.int .i64 l2[pre.length]) := ((hB1.trans (y1.mono (by omega))).cell (p := ⟨g5, o5 + pre.length, none⟩) hg5).trans (hcells5 _ ht)
                  have hput := hRk.drew.put hok hk9 hot ht9 l2[pre.length]
                  have j7 : (pre.length : Int) < (l2.length : Int) := by omega
                  clear hcells5 y1 y2
                  generalize l2[pre.length] = m at *
                  gi_upto_region 28 with (fail)
                  gi_region_with_o (first | (refine ⟨trivial, fun _ => by omega, ?_⟩; refine (CallsIn.inRound l (callsIn_wide.2 hput)).mono ?_; rintro e Y3 ⟨⟨y3, g3, rfl⟩, hR3, hk3⟩; have f6 := (HX.out Y3 _ _ hR3).2.1.cell) | fail)
                  all_goals
                    gi_wp2_with fail
                    refine ⟨trivial, fun _ => by omega, (CallsIn.inRound l (callsIn_wide.2 (hR3.done hok hk9 hot ht9))).mono ?_⟩
                    rintro e Y4 ⟨⟨y4, rfl⟩, hR4, hk4⟩
                    have i1 := hR4.bt.cell
                    have i2 := hR4.bt.frozen
                    have HF5 : Hid _ := Fin.out _ (hR4.sett hot ht9 (by omega) ((pre.length : Int) + 1)) ((((kx.trans (KeepsOthers.drew _)).trans hk3).trans hk4).trans (KeepsOthers.setCell _ _ _))
                    clear hR4 hR3 hk3 hk4 f1 f2 f3 f4 f5 f6 hput hRk Fin
                    gi_wp2_with fail
                    exact HF5.out
                · have j7 : ¬ (pre.length : Int) < (l2.length : Int) := by omega
                  have hR5 := hRk.sett hot ht9 (by omega) ((pre.length : Int) + 1)
                  have Hf := Fin.out _ hR5 (kx.trans (KeepsOthers.setCell _ _ _))
                  have HF5 : Hid _ := Hf
                  clear Hf hR5 Fin y1 y2 hRk
                  gi_wp2_with fail
                  exact HF5.out
              · have Hx : Hid (¬ pre ++ [y] <+: xs) := Hno.out hy
                have hy2 : (y != z) = true := bne_iff_ne.2 hy
                clear Fin HRk Hkx Hno hy
                gi_wp2_with fail
                exact ⟨KeepsOthers.setCell _ _ _, rfl, Hx.out⟩
            case done =>
              rintro D ys X hD rfl hR hK
              exact ⟨D, rfl, hD, hK, hR⟩
            case stop =>
              rintro D c pre X hD hpre ⟨_, h⟩ hK
              exact absurd hpre h
          case rest1 =>
            rintro D1 X1 ⟨hD1, hK1, hR1⟩
            obtain ⟨x1, x2, x3, x4, x5⟩ := HX.out X1 _ _ hR1
            rw [hxl] at hR1
            have hS1 := hSS.keep x5
            have zX1 := hR1.wo.size
            have d1 := hR1.bk.cell
            have e1 : X1.cell? ⟨w.heap.size, 0, none⟩ = some (.slice a1 l1.length c1) := (x1.cell (p := ⟨w.heap.size, 0, none⟩) (by show w.heap.size < w1.heap.size; omega)).trans p1.cell
            have e2 := x4.cell
            have bk1 := hR1.bk
            clear x2 x5 hSS hR0 hR1 HX HKP hBS
            dsimp only
            gi_wp2_with fail
            clear d1 e1 e2
            gi_frame FR2 [108, 17] (fun y => Value.int .i64 y)
            refine Qu.cutD (fun D X => X1.heap.size ≤ D ∧ X.heap[D]? = some (.deferred (some [])) ∧ Wo (fun _ => False) X1 X) ?range2 ?rest2
            case range2 =>
              refine wpIn_rangeFunc_ownF rfl h1 (gf := 27) (lb := #[.pointer (some ⟨x, 0, none⟩)]) rfl trivial (enters_of Try.func27 (by kernel_rfl) rfl)
                (Try.seqI (n - 1) (by omega) x (fun k => wc.heap.size ≤ k ∧ k < w5.heap.size) xs hxN _ hS1) Kp_t (Kp_b (fun k e => by omega)) (Below.refl _ _) (fun _ => rfl)
                (fun pre X => pre = [] ∧ Wo (fun _ => False) X1 X)
                (fun c pre X => (c = .ret ∧ ¬ pre <+: xs) ∨ (c = .exit 4 ∧ Wo (fun _ => False) X1 X))
                (OwnFrom.and (ownFrom_pure _ _) (Qu.wo_own (Nat.le_refl _))) (fun c pre X Y row h hg hr => h.elim (fun h => .inl h) (fun h => .inr ⟨h.1, Qu.wo_own (β := Unit) (Nat.le_refl _) () X Y row h.2 hg hr⟩)) ⟨rfl, Wo.refl _ _⟩ ?FR2 ?assign2 ?body2 ?done2 ?stop2
              case assign2 =>
                intro l y X K hK
                gi_wp2
                exact hK
              case body2 =>
                rintro l _ y X ⟨rfl, hW⟩ hlt
                have hFl : F < l1.length := by have h5 : 0 < xs.length := hlt; omega
                rcases HV1.out with h0 | ⟨g0, o0, rfl, hg0, hcells⟩
                · rw [h0] at hFl; simp at hFl
                have y1 : Below w1.heap.size w1 X := Wo.toBelow x1 hW (fun _ e => e.elim) x1.size
                have hno : y ≠ l1[F] → ¬ [] ++ [y] <+: xs := fun hx hp => hx (by
                  have hzz : xs[0]? = some l1[F] := by rw [hxi, Nat.add_zero, List.getElem?_eq_getElem hFl]
                  obtain ⟨u, hu⟩ := hp
                  rw [← hu] at hzz
                  simpa using hzz)
                have Hno : Hid _ := hno
                have HW : Hid _ := hW
                have e1 : X.cell? ⟨w.heap.size, 0, none⟩ = some (.slice (some ⟨g0, o0, none⟩) l1.length c1) := (y1.cell (p := ⟨w.heap.size, 0, none⟩) (by show w.heap.size < w1.heap.size; omega)).trans p1.cell
                have e2 : X.cell? ⟨g0, o0 + F, none⟩ = some (.int .i64 l1[F]) := ((hB1.trans (y1.mono (by omega))).cell (p := ⟨g0, o0 + F, none⟩) hg0).trans (hcells F hFl)
                have g4 : Boxed X (w.heap.size + 1 + 1) 4 (.bool false) := (y1.block _ (by omega)).trans p3
                have e4 := g4.cell
                have e5 := g4.frozen
                have e6 := (Qu.boxed_wo x3 hW (fun e => e)).cell
                have j2 : (F : Int) < (l1.length : Int) := by omega
                have j3 : (0 : Int) ≤ (F : Int) := by omega
                have j4 : (l1.length : Int) ≤ 140737488351232 := by have := HL1.out; omega
                have j5 : min (F : Int) ((l1.length : Int) - 1) = (F : Int) := by omega
                have j6 : (F : Int) ≤ (l1.length : Int) - 1 := by omega
                clear hno hcells y1 hW x1 x3 x4 g4 hS1
                generalize l1[F] = z at *
                by_cases hy : y = z
                · subst hy
                  clear Hno
                  gi_wp2_with fail
                  exact ⟨KeepsOthers.refl _, .inr ⟨rfl, HW.out⟩⟩
                · have Hx : Hid (¬ [] ++ [y] <+: xs) := Hno.out hy
                  have hy2 : (y != z) = true := bne_iff_ne.2 hy
                  clear Hno hy
                  gi_wp2_with fail
                  exact ⟨KeepsOthers.setCell _ _ _, .inl ⟨rfl, Hx.out⟩⟩
              case done2 =>
                rintro D ys X hD rfl ⟨_, hW⟩ hK
                exact ⟨D, rfl, hD, hK, hW⟩
              case stop2 =>
                rintro D c pre X hD hpre h hK
                rcases h with ⟨_, h⟩ | ⟨rfl, hW⟩
                · exact absurd hpre h
                gi_wp2_with fail
                exact ⟨D, rfl, hD, hK, hW⟩
            case rest2 =>
              rintro D2 X2 ⟨hD2, hK2, hW2⟩
              have y1 : Below w1.heap.size w1 X2 := Wo.toBelow x1 hW2 (fun _ e => e.elim) x1.size
              have y3 := Qu.boxed_wo x3 hW2 (fun e => e)
              have y4 := Qu.boxed_wo x4 hW2 (fun e => e)
              have bk2 := Qu.boxed_wo bk1 hW2 (fun e => e)
              have hS2 := hS1.keep (w' := X2) ⟨hW2.size, fun k e => hW2.block k (by omega) (fun e => e)⟩
              have zX2 := hW2.size
              have hK12 : X2.heap[D1]? = some (.deferred (some [])) := (hW2.block D1 (block_lt hK1) (fun e => e)).trans hK1
              have hDD : D1 ≠ D2 := by have := block_lt hK1; omega
              have wT : Wo (fun k => k = w9.heap.size) X2 (X2.setCell ⟨w9.heap.size, 0, none⟩ (.int .i64 (F : Int))) := (Wo.refl _ X2).setCell w9.heap.size 0 _ (.inl rfl)
              have bkT := bk2.set (.int .i64 (F : Int))
              have bfT := Qu.boxed_wo y3 wT (by omega)
              have blT := Qu.boxed_wo y4 wT (by omega)
              have hST := hS2.keep (w' := X2.setCell ⟨w9.heap.size, 0, none⟩ (.int .i64 (F : Int))) ⟨wT.size, fun k e => wT.block k (by omega) (by omega)⟩
              have hBT : Below w1.heap.size w1 (X2.setCell ⟨w9.heap.size, 0, none⟩ (.int .i64 (F : Int))) := Wo.toBelow y1 wT (fun k e => by omega) y1.size
              have hKT1 := (wT.block D1 (block_lt hK12) (by omega)).trans hK12
              have hKT2 := (wT.block D2 (block_lt hK2) (by omega)).trans hK2
              have zT := wT.size
              have e1 := y3.cell
              have e2 := blT.cell
              have e3 := bk2.cell
              have e4 := bk2.frozen
              clear hS1 hS2 hK1 hK2 hK12 wT hW2 x1 x3 x4 y1 y4 bk1
              dsimp only
              gi_wp2_with fail
              clear e1 e2 e3 e4 bk2 y3
              generalize X2.setCell ⟨w9.heap.size, 0, none⟩ (.int .i64 (F : Int)) = wT at *
              have hTb : ∀ X, Wo (fun k => k = w9.heap.size) wT X → Below w1.heap.size w1 X ∧ Boxed X wr.heap.size 3 (.int .i64 (F : Int)) ∧ Boxed X w5.heap.size 44 (.func (.func 27) #[] #[.pointer (some ⟨x, 0, none⟩)]) ∧ Kp (fun k => wc.heap.size ≤ k ∧ k < w5.heap.size) wT X := fun X h =>
                ⟨Wo.toBelow hBT h (fun k e => by omega) hBT.size, Qu.boxed_wo bfT h (by omega), Qu.boxed_wo blT h (by omega), ⟨h.size, fun k e => h.block k (by omega) (by omega)⟩⟩
              have HTb : Hid _ := hTb
              have HST : Hid _ := hST
              have hzT : w9.heap.size + 1 < wT.heap.size := by omega
              clear hTb bfT blT hBT
              gi_frame FR3 [121, 18] (fun y => Value.int .i64 y)
              refine wpIn_rangeFunc_ownH rfl h1 (gf := 27) (lb := #[.pointer (some ⟨x, 0, none⟩)]) rfl trivial (enters_of Try.func27 (by kernel_rfl) rfl)
                (Try.seqI (n - 1) (by omega) x (fun k => wc.heap.size ≤ k ∧ k < w5.heap.size) xs hxN _ hST) Kp_t (Kp_b (fun k e => by omega)) (Below.refl _ _) (fun _ => rfl)
                (fun pre X => Wo (fun k => k = w9.heap.size) wT X ∧ Boxed X w9.heap.size 3 (.int .i64 ((F + pre.length : Nat) : Int)))
                (fun c pre _ => c = .ret ∧ ¬ pre <+: xs)
                (OwnFrom.and (Qu.wo_own (Nat.le_refl _)) ((boxed_own w9.heap.size 3 (fun (pre : List Int) => .int .i64 ((F + pre.length : Nat) : Int))).from _)) (fun _ _ _ _ _ h _ _ => h) ⟨Wo.refl _ _, bkT⟩
                (fun y a' _ => a' = ?FR3 y) (fun _ _ _ _ _ _ hs _ _ => hs) ?assign3 ?body3 ?done3 ?stop3
              case assign3 =>
                intro l pre y X K hi hK
                gi_wp2
                exact hK _ _ (KeepsFrom.refl _ _) (Kp.refl _ _) hi rfl
              case body3 =>
                rintro l pre y _ X hl ⟨rec, hrec⟩ ⟨hW, hbk⟩ rfl hlt
                obtain ⟨K, hK⟩ : ∃ K : Nat, K = F + pre.length := ⟨_, rfl⟩
                have HKe : Hid (K = F + pre.length) := hK
                rw [← hK] at hbk
                have hKl : K < l1.length := by omega
                clear hK
                obtain ⟨x1, x3, x4, x5⟩ := HTb.out X hW
                rcases HV1.out with h0 | ⟨g0, o0, rfl, hg0, hcells⟩
                · rw [h0] at hKl; simp at hKl
                have hno : y ≠ l1[K] → ¬ pre ++ [y] <+: xs := fun hx hp => hx (by
                  have hzz : xs[pre.length]? = some l1[K] := by rw [hxi, ← HKe.out, List.getElem?_eq_getElem hKl]
                  obtain ⟨u, hu⟩ := hp
                  rw [← hu] at hzz
                  simpa using hzz)
                have Hno : Hid _ := hno
                have fin : ∀ V, Wo (fun k => k = w9.heap.size) wT V → Boxed V w9.heap.size 3 (.int .i64 ((K : Int) + 1)) → KeepsOthers X V → KeepsFrom wT.heap.size X V ∧ Kp (fun k => wc.heap.size ≤ k ∧ k < w5.heap.size) X V ∧ Wo (fun k => k = w9.heap.size) wT V ∧ Boxed V w9.heap.size 3 (.int .i64 ((F + (pre ++ [y]).length : Nat) : Int)) := fun V h1 h2 h3 =>
                  ⟨h3.from _, ⟨h3.size, fun k e => ((HTb.out V h1).2.2.2.block k e).trans (x5.block k e).symm⟩, h1, by rw [List.length_append, List.length_singleton, ← Nat.add_assoc, ← HKe.out]; exact h2⟩
                have Fin : Hid _ := fin
                have d1 := hbk.cell
                have d2 := hbk.frozen
                have e1 : X.cell? ⟨w.heap.size, 0, none⟩ = some (.slice (some ⟨g0, o0, none⟩) l1.length c1) := (x1.cell (p := ⟨w.heap.size, 0, none⟩) (by show w.heap.size < w1.heap.size; omega)).trans p1.cell
                have e2 : X.cell? ⟨g0, o0 + K, none⟩ = some (.int .i64 l1[K]) := ((hB1.trans (x1.mono (by omega))).cell (p := ⟨g0, o0 + K, none⟩) hg0).trans (hcells K hKl)
                have g4 : Boxed X (w.heap.size + 1 + 1) 4 (.bool false) := (x1.block _ (by omega)).trans p3
                have e4 := g4.cell
                have e5 := g4.frozen
                have j1 : ¬ (l1.length : Int) ≤ (K : Int) := by omega
                have j2 : (K : Int) < (l1.length : Int) := by omega
                have j3 : (0 : Int) ≤ (K : Int) := by omega
                have j4 : (K : Int) + 1 ≤ 140737488351232 := by have := HL1.out; omega
                have hWk : Wo (fun k => k = w9.heap.size) wT (X.setCell ⟨w9.heap.size, 0, none⟩ (.int .i64 ((K : Int) + 1))) := hW.setCell w9.heap.size 0 _ (.inl rfl)
                have hbk1 := hbk.set (.int .i64 ((K : Int) + 1))
                have kx := KeepsOthers.setCell X ⟨w9.heap.size, 0, none⟩ (.int .i64 ((K : Int) + 1))
                have HWk : Hid _ := hWk
                have Hbk1 : Hid _ := hbk1
                have Hkx : Hid _ := kx
                have HC : Hid _ := hcells
                clear hno fin hcells x1 x3 x4 x5 hWk hbk1 kx g4 hW hbk hST bkT
                generalize l1[K] = z at *
                by_cases hy : y = z
                · subst hy
                  clear Hno
                  gi_upto_region 43 with (fail)
                  have hWk := HWk.out
                  have hbk1 : Boxed (X.setCell ⟨w9.heap.size, 0, none⟩ (.int .i64 ((K : Int) + 1))) w9.heap.size 3 (.int .i64 ((K : Int) + 1)) := Hbk1.out
                  have kx := Hkx.out
                  clear d1 d2 e1 e2 e4 e5 j1 j2 HWk Hbk1 Hkx
                  generalize X.setCell ⟨w9.heap.size, 0, none⟩ (.int .i64 ((K : Int) + 1)) = Y at *
                  obtain ⟨y1, y3, y4, y5⟩ := HTb.out Y hWk
                  have zY := hWk.size
                  have f1 := y3.cell
                  have hWz := hWk.alloc (.cells #[.int .i64 (F : Int)] 3)
                  have hbz := hbk1.alloc (.cells #[.int .i64 (F : Int)] 3)
                  have hjz := Boxed.new Y 3 (.int .i64 (F : Int))
                  have kz := kx.trans (KeepsOthers.alloc Y (.cells #[.int .i64 (F : Int)] 3))
                  have zz : (Y.alloc (.cells #[.int .i64 (F : Int)] 3)).heap.size = Y.heap.size + 1 := by simp
                  obtain ⟨v1, v3, v4, v5⟩ := HTb.out _ hWz
                  have f2 := v4.cell
                  gi_wp2_with fail
                  clear f1 f2 y1 y3 y4 y5 v4 hWk hbk1 kx
                  generalize Y.alloc (.cells #[.int .i64 (F : Int)] 3) = Z at *
                  have hlp := kz.same l _ hrec rfl
                  have hSZ := HST.out.keep v5
                  have HSZ : Hid _ := hSZ
                  have hFK : F ≤ K := by have := HKe.out; omega
                  have j6 : (0 : Int) ≤ (F : Int) := by omega
                  have j7 : (F : Int) ≤ (K : Int) := by omega
                  have hjY : Y.heap.size ≠ w9.heap.size := by omega
                  obtain ⟨I4, hI4⟩ : ∃ I4 : List Int → World → Prop, I4 = fun pre' V => (Wo (fun k => k = w9.heap.size) wT V ∧ Boxed V w9.heap.size 3 (.int .i64 ((K : Int) + 1))) ∧ Boxed V Y.heap.size 3 (.int .i64 ((F + pre'.length : Nat) : Int)) ∧ KeepsOthers Z V := ⟨_, rfl⟩
                  obtain ⟨X4, hX4⟩ : ∃ X4 : Code → List Int → World → Prop, X4 = fun c pre' V => c = .exit 8 ∧ (¬ pre' <+: xs ∨ 3 < (K : Int) + 1 - F) ∧ ∃ jv : Int, (Wo (fun k => k = w9.heap.size) wT V ∧ Boxed V w9.heap.size 3 (.int .i64 ((K : Int) + 1))) ∧ Boxed V Y.heap.size 3 (.int .i64 jv) ∧ KeepsOthers Z V := ⟨_, rfl⟩
                  have hOx : ∀ c, OwnFrom Z.heap.size (X4 c) := by
                    rw [hX4]
                    intro c pre' A B row h hg hr
                    obtain ⟨i1, i2, jv, ⟨i3, i4⟩, i5, i6⟩ := h
                    exact ⟨i1, i2, jv, ⟨Qu.wo_own (β := Unit) (by omega) () A B row i3 hg hr, (boxed_own w9.heap.size 3 (fun (_ : Unit) => .int .i64 ((K : Int) + 1))).from _ () A B row i4 hg hr⟩, (boxed_own Y.heap.size 3 (fun (_ : Unit) => .int .i64 jv)).from _ () A B row i5 hg hr, Qu.own_others (β := Unit) (Nat.le_refl _) () A B row i6 hg hr⟩
                  gi_frame FR4 [138, 20] (fun y => Value.int .i64 y)
                  refine wpIn_rangeFunc_ownN rfl hlp (by omega) (gf := 27) (lb := #[.pointer (some ⟨x, 0, none⟩)]) rfl trivial (enters_of Try.func27 (by kernel_rfl) rfl)
                    ((Try.seqI (n - 1 - 1 - 1) (by omega) x (fun k => wc.heap.size ≤ k ∧ k < w5.heap.size) xs hxN _ HSZ.out).inRound l) Kp_t (Kp_b (fun k e => by omega)) (Below.refl _ _) (fun _ => rfl)
                    I4 X4
                    (by rw [hI4]; exact OwnFrom.and (OwnFrom.and (Qu.wo_own (by omega)) ((boxed_own w9.heap.size 3 (fun (_ : List Int) => .int .i64 ((K : Int) + 1))).from _)) (OwnFrom.and ((boxed_own Y.heap.size 3 (fun (pre' : List Int) => .int .i64 ((F + pre'.length : Nat) : Int))).from _) (Qu.own_others (Nat.le_refl _))))
                    hOx
                    (by rw [hI4]; exact ⟨⟨hWz, hbz⟩, hjz, KeepsOthers.refl _⟩)
                    (fun y a' _ => a' = ?FR4 y) (fun _ _ _ _ _ _ hs _ _ => hs) ?assign4 ?body4 ?done4 ?stop4
                  case assign4 =>
                    intro l2 pre2 y2 V K2 hi hK2
                    gi_wp2
                    exact hK2 _ _ (KeepsFrom.refl _ _) (Kp.refl _ _) hi rfl
                  case body4 =>
                    rintro l2 pre2 y2 _ V hl2 _ hI rfl hlt2
                    rw [hI4] at hI
                    obtain ⟨⟨q1, q2⟩, q3, q4⟩ := hI
                    obtain ⟨J, hJ⟩ : ∃ J : Nat, J = F + pre2.length := ⟨_, rfl⟩
                    have HJe : Hid (J = F + pre2.length) := hJ
                    rw [← hJ] at q3
                    have hJl : J < l1.length := by omega
                    clear hJ
                    obtain ⟨u1, u3, _, u5⟩ := HTb.out V q1
                    have hno : y2 ≠ l1[J] → ¬ pre2 ++ [y2] <+: xs := fun hx hp => hx (by
                      have hzz : xs[pre2.length]? = some l1[J] := by rw [hxi, ← HJe.out, List.getElem?_eq_getElem hJl]
                      obtain ⟨u, hu⟩ := hp
                      rw [← hu] at hzz
                      simpa using hzz)
                    have Hno : Hid _ := hno
                    have e1 : V.cell? ⟨w.heap.size, 0, none⟩ = some (.slice (some ⟨g0, o0, none⟩) l1.length c1) := (u1.cell (p := ⟨w.heap.size, 0, none⟩) (by show w.heap.size < w1.heap.size; omega)).trans p1.cell
                    have e2 : V.cell? ⟨g0, o0 + J, none⟩ = some (.int .i64 l1[J]) := ((hB1.trans (u1.mono (by omega))).cell (p := ⟨g0, o0 + J, none⟩) hg0).trans (HC.out J hJl)
                    have e3 := q2.cell
                    have e4 := q3.cell
                    have e5 := q3.frozen
                    have e6 := u3.cell
                    have i1 : ¬ (l1.length : Int) ≤ (J : Int) := by omega
                    have i2 : (J : Int) < (l1.length : Int) := by omega
                    have i3 : (0 : Int) ≤ (J : Int) := by omega
                    have i4 : (J : Int) + 1 ≤ 140737488351232 := by have := HL1.out; omega
                    have Hex : Hid ((¬ pre2 ++ [y2] <+: xs ∨ 3 < (K : Int) + 1 - F) → X4 (.exit 8) (pre2 ++ [y2]) V) := fun h => by rw [hX4]; exact ⟨rfl, h, _, ⟨q1, q2⟩, q3, q4⟩
                    have Hnx : Hid (KeepsFrom Z.heap.size V (V.setCell ⟨Y.heap.size, 0, none⟩ (.int .i64 ((J : Int) + 1))) ∧ Kp (fun k => wc.heap.size ≤ k ∧ k < w5.heap.size) V (V.setCell ⟨Y.heap.size, 0, none⟩ (.int .i64 ((J : Int) + 1))) ∧ I4 (pre2 ++ [y2]) (V.setCell ⟨Y.heap.size, 0, none⟩ (.int .i64 ((J : Int) + 1)))) :=
                      ⟨(KeepsOthers.setCell _ _ _).from _, ⟨by simp, fun k e => Below.heap_setCell V ⟨Y.heap.size, 0, none⟩ _ k (by show k ≠ Y.heap.size; omega)⟩, by rw [hI4]; exact ⟨⟨q1.setCell Y.heap.size 0 _ (.inr (by omega)), q2.other (by omega) _⟩, by rw [List.length_append, List.length_singleton, ← Nat.add_assoc, ← HJe.out]; exact q3.set _, q4.trans (KeepsOthers.setCell _ _ _)⟩⟩
                    clear hno u1 u3 u5 q1 q2 q3 q4 Fin HC hWz hbz hjz kz v1 v3 v5 hSZ hlp hI4 hX4 zz
                    generalize l1[J] = z2 at *
                    by_cases hy2 : y2 = z2
                    · subst hy2
                      clear Hno
                      by_cases h3 : 3 < (K : Int) + 1 - F
                      · gi_wp2_with fail
                        exact ⟨KeepsFrom.refl _ _, Hex.out (.inr h3)⟩
                      · gi_wp2_with fail
                        exact Hnx.out
                    · have Hx : Hid (¬ pre2 ++ [y2] <+: xs) := Hno.out hy2
                      have hy3 : (y2 != z2) = true := bne_iff_ne.2 hy2
                      clear Hno hy2 Hnx
                      gi_wp2_with fail
                      exact ⟨KeepsFrom.refl _ _, Hex.out (.inl Hx.out)⟩
                  case done4 =>
                    rintro ys V rfl hI
                    rw [hI4] at hI
                    obtain ⟨⟨q1, q2⟩, q3, q4⟩ := hI
                    rw [hxl] at q3
                    obtain ⟨u1, u3, _, _⟩ := HTb.out V q1
                    have HF1 : Hid _ := Fin.out V q1 q2 (kz.trans q4)
                    have e1 : V.cell? ⟨w.heap.size, 0, none⟩ = some (.slice (some ⟨g0, o0, none⟩) l1.length c1) := (u1.cell (p := ⟨w.heap.size, 0, none⟩) (by show w.heap.size < w1.heap.size; omega)).trans p1.cell
                    have e3 := q2.cell
                    have e4 := q3.cell
                    have e6 := u3.cell
                    clear u1 u3 q1 q2 q3 q4 Fin HC hWz hbz hjz kz v1 v3 v5 hSZ hlp hI4 hX4 zz
                    gi_wp2_with fail
                    exact HF1.out
                  case stop4 =>
                    rintro c pre2 V hpre h
                    rw [hX4] at h
                    obtain ⟨rfl, h3, jv, ⟨q1, q2⟩, q3, q4⟩ := h
                    rcases h3 with h3 | h3
                    · exact absurd hpre h3
                    obtain ⟨u1, u3, _, _⟩ := HTb.out V q1
                    have HF1 : Hid _ := Fin.out V q1 q2 (kz.trans q4)
                    have e1 : V.cell? ⟨w.heap.size, 0, none⟩ = some (.slice (some ⟨g0, o0, none⟩) l1.length c1) := (u1.cell (p := ⟨w.heap.size, 0, none⟩) (by show w.heap.size < w1.heap.size; omega)).trans p1.cell
                    have e3 := q2.cell
                    have e4 := q3.cell
                    have e6 := u3.cell
                    have h4 : ¬ (K : Int) + 1 - F ≤ 3 := by omega
                    clear u1 u3 q1 q2 q3 q4 Fin HC hWz hbz hjz kz v1 v3 v5 hSZ hlp hI4 hX4 zz
                    by_cases hj : jv = (l1.length : Int)
                    · subst hj
                      gi_wp2_with fail
                      exact HF1.out
                    · have hj2 : (jv != (l1.length : Int)) = true := bne_iff_ne.2 hj
                      clear hj
                      gi_wp2_with fail
                      exact HF1.out
                · have Hx : Hid (¬ pre ++ [y] <+: xs) := Hno.out hy
                  have hy2 : (y != z) = true := bne_iff_ne.2 hy
                  clear Fin HWk Hbk1 Hkx Hno hy
                  gi_wp2_with fail
                  exact ⟨(KeepsOthers.setCell _ _ _).from _, rfl, Hx.out⟩
              case done3 =>
                rintro D3 ys X hD3 rfl ⟨hW, hbk⟩ hK3
                rw [hxl] at hbk
                obtain ⟨x1, x3, x4, x5⟩ := HTb.out X hW
                have d1 := hbk.cell
                have e1 : X.cell? ⟨w.heap.size, 0, none⟩ = some (.slice a1 l1.length c1) := (x1.cell (p := ⟨w.heap.size, 0, none⟩) (by show w.heap.size < w1.heap.size; omega)).trans p1.cell
                have g4 : Boxed X (w.heap.size + 1 + 1) 4 (.bool false) := (x1.block _ (by omega)).trans p3
                have c4 := g4.cell
                have f4 := g4.frozen
                have g5 := (g4.set (.bool true)).cell
                have g6 : Below w.heap.size w (X.setCell ⟨w.heap.size + 1 + 1, 0, none⟩ (.bool true)) := (hB1.trans (x1.mono (by omega))).setCell (p := ⟨w.heap.size + 1 + 1, 0, none⟩) (by show w.heap.size ≤ w.heap.size + 1 + 1; omega) _
                have hk : ∀ D ∈ [D3, D2, D1], w1.heap.size ≤ D ∧ (X.setCell ⟨w.heap.size + 1 + 1, 0, none⟩ (.bool true)).heap[D]? = some (.deferred (some [])) := fun D hD => by
                  have h5 : w1.heap.size ≤ D ∧ X.heap[D]? = some (.deferred (some [])) := by
                    simp only [List.mem_cons, List.not_mem_nil, or_false] at hD
                    rcases hD with rfl | rfl | rfl
                    · exact ⟨by omega, hK3⟩
                    · exact ⟨by omega, (hW.block _ (block_lt hKT2) (by omega)).trans hKT2⟩
                    · exact ⟨by omega, (hW.block _ (block_lt hKT1) (by omega)).trans hKT1⟩
                  exact ⟨h5.1, (Below.heap_setCell _ _ _ _ (by show D ≠ w.heap.size + 1 + 1; omega)).trans h5.2⟩
                have hnd : [D3, D2, D1].Nodup := by
                  have i1 := block_lt hKT1
                  have i2 := block_lt hKT2
                  simp only [List.nodup_cons, List.mem_cons, List.not_mem_nil, or_false, not_or, not_false_eq_true, List.nodup_nil, and_true]
                  omega
                have Hk : Hid _ := hk
                have Hnd : Hid _ := hnd
                clear hk hnd hK3 hKT1 hKT2 x1 x3 x4 x5 g4 hW hbk HTb
                gi_wp2_with fail
                refine Qu.leaveAll (B := w1.heap.size) [D3, D2, D1] _ Hnd.out Hk.out (fun W' hW' => ?_)
                exact ⟨.bool true, Qu.resultsBool rfl Try.underlying4 _ _ _ _ rfl ((hW'.cell (p := ⟨w.heap.size + 1 + 1, 0, none⟩) (by show w.heap.size + 1 + 1 < w1.heap.size; omega)).trans g5), rfl, g6.trans (hW'.mono (by omega))⟩
              case stop3 =>
                rintro D c pre X hD hpre ⟨_, h⟩ hK
                exact absurd hpre h
theorem Try.queueStaysWalk (size : Int) (v1 : Value) (l1 : List Int) (v2 : Value) (l2 : List Int) (w : World) (h1 : -9223372036854775808 ≤ size ∧ size ≤ 9223372036854775807) (hI1 : Qu.Iv w v1 l1) (hL1 : l1.length ≤ 140737488351232) (hI2 : Qu.Iv w v2 l2) (hL2 : l2.length ≤ 140737488351232) :
    Calls Try.prog 6 #[.int .i64 size, v1, v2] w fun z w' => z = .returned (.bool true) ∧ Below w.heap.size w w' :=
  (callsIn_wide (n := 7)).1 (Try.stays_in 7 (Nat.le_refl _) size h1.1 h1.2 v1 v2 l1 l2 w hI1 hI2 hL1 hL2)
end Go.Proofs
