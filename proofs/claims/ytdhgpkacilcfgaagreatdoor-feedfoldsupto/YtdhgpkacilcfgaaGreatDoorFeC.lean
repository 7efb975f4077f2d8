/-
  FEED: symMerge.
-/
import Derived.Test.YtdhgpkacilcfgaaGreatDoorFeB
namespace Go.Proofs
open Go.Shelf Go.RowKit Go.Wi Go.Fd Go.Sort
theorem Fd.sym_go {α : Type} [Inhabited α] (lt : α → α → Bool) {f a mm b mid s e : Nat} (d : Array α) (h1 : ¬ mm - a = 1) (h2 : ¬ b - mm = 1) (hmid : (a + b) / 2 = mid) (hs : (if mid < mm then bs3 lt (mid + mm - 1) (mid + mm - b) mid d else bs3 lt (mid + mm - 1) a mm d) = s) (he : mid + mm - s = e) :
    sym lt (f + 1) a mm b d = (if mid < e ∧ e < b then sym lt f mid e b (if a < s ∧ s < mid then sym lt f a s mid (if s < mm ∧ mm < e then rot mm (mm - s) (e - mm) d else d) else (if s < mm ∧ mm < e then rot mm (mm - s) (e - mm) d else d)) else (if a < s ∧ s < mid then sym lt f a s mid (if s < mm ∧ mm < e then rot mm (mm - s) (e - mm) d else d) else (if s < mm ∧ mm < e then rot mm (mm - s) (e - mm) d else d))) := by
  subst hmid
  conv => lhs; unfold sym
  rw [if_neg h1, if_neg h2]
  simp only [hs, he]
set_option maxHeartbeats 4000000 in
set_option maxRecDepth 100000 in
theorem Tryz.sym_mid (blk cap f a mm b : Nat) (d0 d : Array Cn) (w : World) (m : Nat) (os : Array Obj) (hH : HoldsK cnE 3 w blk 0 d0) (hblk : blk < w.heap.size) (hs : d.size = d0.size) (ham : a + 1 < mm) (hmb : mm + 1 < b) (hb : b ≤ d.size) (hsz : d.size < 4611686018427387904) (hf : b - a ≤ f + 1)
    (ih : ∀ (a mm b : Nat) (dk : Array Cn) (k : Nat) (ok : Array Obj), dk.size = d.size → a < mm → mm < b → b ≤ d.size → b - a ≤ f → Calls Tryz.prog 61 #[.slice (some ⟨blk, 0, none⟩) d0.size cap, .int .i64 a, .int .i64 mm, .int .i64 b, .func (.func 33) #[] #[]] (sortWorldK cnE 3 w blk 0 k dk ok) fun e w' => e = .returned (.tuple #[]) ∧ ∃ m' os', w' = sortWorldK cnE 3 w blk 0 m' (sym Fd.ltR f a mm b dk) os') :
    Calls Tryz.prog 61 #[.slice (some ⟨blk, 0, none⟩) d0.size cap, .int .i64 a, .int .i64 mm, .int .i64 b, .func (.func 33) #[] #[]] (sortWorldK cnE 3 w blk 0 m d os) fun e w' => e = .returned (.tuple #[]) ∧ ∃ m' os', w' = sortWorldK cnE 3 w blk 0 m' (sym Fd.ltR (f + 1) a mm b d) os' := by
  have hmx : Tryz.prog.follows .mixedOrders = true := by kernel_rfl
  have HH : Hid (HoldsK cnE 3 w blk 0 d0) := hH
  have IH : Hid _ := ih
  have h0 : ¬ ((mm : Int) - (a : Int) = 1) := by omega
  have h1 : ¬ ((b : Int) - (mm : Int) = 1) := by omega
  obtain ⟨mid, hmid⟩ : ∃ mid, (a + b) / 2 = mid := ⟨_, rfl⟩
  have emid : ((a : Int) + (b : Int)) / 2 = (mid : Int) := by omega
  obtain ⟨p, hp⟩ : ∃ p, mid + mm - 1 = p := ⟨_, rfl⟩
  have ep : (mid : Int) + (mm : Int) - 1 = (p : Int) := by omega
  have hm1 : a < mid := by omega
  have hm2 : mid < b := by omega
  clear hH ih
  by_cases hmm : mid < mm
  · have q0 : (mid : Int) < (mm : Int) := by omega
    have est : (mid : Int) + (mm : Int) - (b : Int) = ((mid + mm - b : Nat) : Int) := by omega
    go_enter Tryz.func61, Tryz.ntmps61
    go_wp2
    go_loopw [20, 21, 23] (fun iv jv _ wr => ∃ (i j k : Nat) (oj : Array Obj), iv = .int .i64 i ∧ jv = .int .i64 j ∧ mid + mm - b ≤ i ∧ i ≤ j ∧ j ≤ mid ∧ wr = sortWorldK cnE 3 w blk 0 k d oj ∧ Hid (bs3 Fd.ltR p i j d = bs3 Fd.ltR p (mid + mm - b) mid d)) (fun iv jv _ _ => (intOf jv).toNat - (intOf iv).toNat)
    case atStart => exact ⟨mid + mm - b, mid, m, os, by rw [← est], rfl, Nat.le_refl _, by omega, Nat.le_refl _, rfl, rfl⟩
    case round =>
      obtain ⟨i, j, k, oj, rfl, rfl, hi1, hij, hjb, rfl, HI⟩ := hrel
      by_cases hlt : i < j
      · have q : (i : Int) < (j : Int) := by omega
        have hHq : HoldsK cnE 3 (sortWorldK cnE 3 w blk 0 k d oj) blk 0 d := holdsK_sortWorldK_c cnE 3 w blk 0 d0 d k oj HH.out hblk hs
        have hbq : blk < (sortWorldK cnE 3 w blk 0 k d oj).heap.size := Nat.lt_of_lt_of_le hblk (size_sortWorldK_c cnE 3 w blk 0 k d oj)
        have CLS : Hid (∀ n os', grow ((sortWorldK cnE 3 w blk 0 k d oj).drewN n) os' = sortWorldK cnE 3 w blk 0 (k + n) d (oj ++ os')) := fun n os' => sortWorldK_grown_c cnE 3 w blk 0 k n d oj os'
        obtain ⟨h, hh⟩ : ∃ h, (i + j) / 2 = h := ⟨_, rfl⟩
        have eh : ((i : Int) + (j : Int)) / 2 = (h : Int) := by omega
        obtain ⟨ph, hph⟩ : ∃ ph, p - h = ph := ⟨_, rfl⟩
        have hpn : h ≤ p := by omega
        have eph : (p : Int) - (h : Int) = (ph : Int) := by omega
        have hhl : h < d.size := by omega
        have hpl : ph < d.size := by omega
        have zh : (h : Int) < (d0.size : Int) := by omega
        have zp : (ph : Int) < (d0.size : Int) := by omega
        have wph : IntKind.i64.wrap (ph : Int) = (ph : Int) := by rw [IntKind.wrap_i64]; omega
        generalize hwq : sortWorldK cnE 3 w blk 0 k d oj = wq at *
        obtain ⟨x0, x1, x2⟩ := Fd.cells_grown hHq hbq hhl
        obtain ⟨y0, y1, y2⟩ := Fd.cells_grown hHq hbq hpl
        have hcmp := Tryz.cmp_grown wq d[ph]! d[h]!
        have HC : Hid (∀ b : Bool, decide (cnC d[ph]! d[h]! < 0) = b → bs3 Fd.ltR p i j d = if b then bs3 Fd.ltR p i h d else bs3 Fd.ltR p (h + 1) j d) := fun b hb => by
          conv => lhs; unfold bs3
          rw [if_pos hlt, hh, hph, Fd.ltR_neg, hb]
        generalize d[h]! = x at *
        generalize d[ph]! = y at *
        generalize cnC y x = c at *
        clear hHq hbq hwq
        go_upto_region 35 with (fail)
        go_quiet_grown (first | (go_at_call 33; refine Calls.grown_of (hcmp _ _)))
        have HW : Hid (grow (wq.drewN nq) osq = sortWorldK cnE 3 w blk 0 (k + nq) d (oj ++ osq)) := CLS.out nq osq
        clear x0 x1 x2 y0 y1 y2 hcmp CLS
        generalize grow (wq.drewN nq) osq = wz at *
        by_cases hc : c < 0
        · have hb1 := HC.out true (decide_eq_true hc)
          have hdc : (!decide (c < 0)) = false := by rw [decide_eq_true hc]; rfl
          have HB1 : Hid (bs3 Fd.ltR p i j d = bs3 Fd.ltR p i h d) := hb1
          clear hb1 HC
          go_wp2
          · exfalso
            rename_i hx
            rw [hdc] at hx
            cases hx
          · rw [hdc] at *
            go_wp2
            first
              | exact ⟨⟨i, h, k + nq, oj ++ osq, rfl, rfl, hi1, by omega, by omega, HW.out, by show _ = _; rw [← HB1.out]; exact HI.out⟩, by simp [intOf]; omega⟩
              | exact ⟨⟨i, rfl, h, rfl, by omega, by omega, by omega, ⟨k + nq, oj ++ osq, HW.out⟩, by show _ = _; rw [← HB1.out]; exact HI.out⟩, by simp [intOf]; omega⟩
        · have hb1 := HC.out false (decide_eq_false hc)
          have hdc : (!decide (c < 0)) = true := by rw [decide_eq_false hc]; rfl
          have HB1 : Hid (bs3 Fd.ltR p i j d = bs3 Fd.ltR p (h + 1) j d) := hb1
          clear hb1 HC
          go_wp2
          all_goals first
            | (exfalso; rename_i hx; rw [hdc] at hx; cases hx; done)
            | exact ⟨⟨h + 1, j, k + nq, oj ++ osq, by simp, rfl, by omega, by omega, hjb, HW.out, by show _ = _; rw [← HB1.out]; exact HI.out⟩, by simp [intOf]; omega⟩
            | exact ⟨⟨h + 1, by simp, j, rfl, by omega, by omega, hjb, ⟨k + nq, oj ++ osq, HW.out⟩, by show _ = _; rw [← HB1.out]; exact HI.out⟩, by simp [intOf]; omega⟩
      · have q : ¬ (i : Int) < (j : Int) := by omega
        have hfin := HI.out
        unfold bs3 at hfin
        rw [if_neg hlt] at hfin
        have hsi : bs3 Fd.ltR p (mid + mm - b) mid d = i := by rw [hfin]; conv => lhs; unfold bs3
        have hsi2 : (if mid < mm then bs3 Fd.ltR (mid + mm - 1) (mid + mm - b) mid d else bs3 Fd.ltR (mid + mm - 1) a mm d) = i := by rw [if_pos hmm, hp]; exact hsi
        clear hfin HI
        obtain ⟨e, hee⟩ : ∃ e, mid + mm - i = e := ⟨_, rfl⟩
        have ee : (mid : Int) + (mm : Int) - (i : Int) = (e : Int) := by omega
        have HFIN : Hid _ := Fd.sym_go (f := f) Fd.ltR d (show ¬ mm - a = 1 by omega) (show ¬ b - mm = 1 by omega) hmid hsi2 hee
        clear hsi2
        by_cases c1 : i < mm ∧ mm < e
        · have e1 : (i : Int) < (mm : Int) := by omega
          have e2 : (mm : Int) < (e : Int) := by omega
          have hc1 := Tryz.rotate_any blk cap i mm e d0 d w k oj HH.out hblk hs c1.1 c1.2 (by omega) hsz (.func (.func 33) #[] #[])
          have HF1 := HFIN.out
          rw [if_pos c1] at HF1
          have HFIN : Hid _ := HF1
          clear HF1
          go_upto_region 41 with (first
            | (go_at_call 80; refine hc1.mono ?_; clear hc1; rintro e1 w1 ⟨rfl, k1, o1, rfl⟩)
            | fail)
          by_cases c2 : a < i ∧ i < mid
          · have f1 : (a : Int) < (i : Int) := by omega
            have f2 : (i : Int) < (mid : Int) := by omega
            have hc2 := IH.out a i mid (rot mm (mm - i) (e - mm) d) k1 o1 (by simp [rot_sz]) c2.1 c2.2 (by omega) (by omega)
            have HF2 := HFIN.out
            rw [if_pos c2] at HF2
            have HFIN : Hid _ := HF2
            clear HF2
            go_upto_region 43 with (first
              | (go_at_call 61; refine hc2.mono ?_; clear hc2; rintro e2 w2 ⟨rfl, k2, o2, rfl⟩)
              | fail)
            by_cases c3 : mid < e ∧ e < b
            · have g1 : (mid : Int) < (e : Int) := by omega
              have g2 : (e : Int) < (b : Int) := by omega
              have hc3 := IH.out mid e b (sym Fd.ltR f a i mid (rot mm (mm - i) (e - mm) d)) k2 o2 (by simp [rot_sz, sym_size]) c3.1 c3.2 hb (by omega)
              go_wp2_with (first
                | (go_at_call 61; refine hc3.mono ?_; clear hc3; rintro e3 w3 ⟨rfl, k3, o3, rfl⟩)
                | fail)
              go_end0
              exact ⟨rfl, k3, o3, by rw [HFIN.out, if_pos c3]⟩
            · have g1 : ¬ ((mid : Int) < (e : Int) ∧ (e : Int) < (b : Int)) := by omega
              by_cases c4 : mid < e
              · have g2 : (mid : Int) < (e : Int) := by omega
                have g3 : ¬ (e : Int) < (b : Int) := by omega
                go_wp2
                go_end0
                exact ⟨rfl, k2, o2, by rw [HFIN.out, if_neg c3]⟩
              · have g2 : ¬ (mid : Int) < (e : Int) := by omega
                go_wp2
                go_end0
                exact ⟨rfl, k2, o2, by rw [HFIN.out, if_neg c3]⟩
          · have f1 : ¬ ((a : Int) < (i : Int) ∧ (i : Int) < (mid : Int)) := by omega
            have HF2 := HFIN.out
            rw [if_neg c2] at HF2
            have HFIN : Hid _ := HF2
            clear HF2
            by_cases c5 : a < i
            · have f2 : (a : Int) < (i : Int) := by omega
              have f3 : ¬ (i : Int) < (mid : Int) := by omega
              go_upto_region 43 with (fail)
              by_cases c3 : mid < e ∧ e < b
              · have g1 : (mid : Int) < (e : Int) := by omega
                have g2 : (e : Int) < (b : Int) := by omega
                have hc3 := IH.out mid e b (rot mm (mm - i) (e - mm) d) k1 o1 (by simp [rot_sz]) c3.1 c3.2 hb (by omega)
                go_wp2_with (first
                  | (go_at_call 61; refine hc3.mono ?_; clear hc3; rintro e3 w3 ⟨rfl, k3, o3, rfl⟩)
                  | fail)
                go_end0
                exact ⟨rfl, k3, o3, by rw [HFIN.out, if_pos c3]⟩
              · have g1 : ¬ ((mid : Int) < (e : Int) ∧ (e : Int) < (b : Int)) := by omega
                by_cases c4 : mid < e
                · have g2 : (mid : Int) < (e : Int) := by omega
                  have g3 : ¬ (e : Int) < (b : Int) := by omega
                  go_wp2
                  go_end0
                  exact ⟨rfl, k1, o1, by rw [HFIN.out, if_neg c3]⟩
                · have g2 : ¬ (mid : Int) < (e : Int) := by omega
                  go_wp2
                  go_end0
                  exact ⟨rfl, k1, o1, by rw [HFIN.out, if_neg c3]⟩
            · have f2 : ¬ (a : Int) < (i : Int) := by omega
              go_upto_region 43 with (fail)
              by_cases c3 : mid < e ∧ e < b
              · have g1 : (mid : Int) < (e : Int) := by omega
                have g2 : (e : Int) < (b : Int) := by omega
                have hc3 := IH.out mid e b (rot mm (mm - i) (e - mm) d) k1 o1 (by simp [rot_sz]) c3.1 c3.2 hb (by omega)
                go_wp2_with (first
                  | (go_at_call 61; refine hc3.mono ?_; clear hc3; rintro e3 w3 ⟨rfl, k3, o3, rfl⟩)
                  | fail)
                go_end0
                exact ⟨rfl, k3, o3, by rw [HFIN.out, if_pos c3]⟩
              · have g1 : ¬ ((mid : Int) < (e : Int) ∧ (e : Int) < (b : Int)) := by omega
                by_cases c4 : mid < e
                · have g2 : (mid : Int) < (e : Int) := by omega
                  have g3 : ¬ (e : Int) < (b : Int) := by omega
                  go_wp2
                  go_end0
                  exact ⟨rfl, k1, o1, by rw [HFIN.out, if_neg c3]⟩
                · have g2 : ¬ (mid : Int) < (e : Int) := by omega
                  go_wp2
                  go_end0
                  exact ⟨rfl, k1, o1, by rw [HFIN.out, if_neg c3]⟩
        · have HF1 := HFIN.out
          rw [if_neg c1] at HF1
          have HFIN : Hid _ := HF1
          clear HF1
          by_cases c6 : i < mm
          · have e1 : (i : Int) < (mm : Int) := by omega
            have e2 : ¬ (mm : Int) < (e : Int) := by omega
            go_upto_region 41 with (fail)
            by_cases c2 : a < i ∧ i < mid
            · have f1 : (a : Int) < (i : Int) := by omega
              have f2 : (i : Int) < (mid : Int) := by omega
              have hc2 := IH.out a i mid d k oj (by simp) c2.1 c2.2 (by omega) (by omega)
              have HF2 := HFIN.out
              rw [if_pos c2] at HF2
              have HFIN : Hid _ := HF2
              clear HF2
              go_upto_region 43 with (first
                | (go_at_call 61; refine hc2.mono ?_; clear hc2; rintro e2 w2 ⟨rfl, k2, o2, rfl⟩)
                | fail)
              by_cases c3 : mid < e ∧ e < b
              · have g1 : (mid : Int) < (e : Int) := by omega
                have g2 : (e : Int) < (b : Int) := by omega
                have hc3 := IH.out mid e b (sym Fd.ltR f a i mid d) k2 o2 (by simp [sym_size]) c3.1 c3.2 hb (by omega)
                go_wp2_with (first
                  | (go_at_call 61; refine hc3.mono ?_; clear hc3; rintro e3 w3 ⟨rfl, k3, o3, rfl⟩)
                  | fail)
                go_end0
                exact ⟨rfl, k3, o3, by rw [HFIN.out, if_pos c3]⟩
              · have g1 : ¬ ((mid : Int) < (e : Int) ∧ (e : Int) < (b : Int)) := by omega
                by_cases c4 : mid < e
                · have g2 : (mid : Int) < (e : Int) := by omega
                  have g3 : ¬ (e : Int) < (b : Int) := by omega
                  go_wp2
                  go_end0
                  exact ⟨rfl, k2, o2, by rw [HFIN.out, if_neg c3]⟩
                · have g2 : ¬ (mid : Int) < (e : Int) := by omega
                  go_wp2
                  go_end0
                  exact ⟨rfl, k2, o2, by rw [HFIN.out, if_neg c3]⟩
            · have f1 : ¬ ((a : Int) < (i : Int) ∧ (i : Int) < (mid : Int)) := by omega
              have HF2 := HFIN.out
              rw [if_neg c2] at HF2
              have HFIN : Hid _ := HF2
              clear HF2
              by_cases c5 : a < i
              · have f2 : (a : Int) < (i : Int) := by omega
                have f3 : ¬ (i : Int) < (mid : Int) := by omega
                go_upto_region 43 with (fail)
                by_cases c3 : mid < e ∧ e < b
                · have g1 : (mid : Int) < (e : Int) := by omega
                  have g2 : (e : Int) < (b : Int) := by omega
                  have hc3 := IH.out mid e b d k oj (by simp) c3.1 c3.2 hb (by omega)
                  go_wp2_with (first
                    | (go_at_call 61; refine hc3.mono ?_; clear hc3; rintro e3 w3 ⟨rfl, k3, o3, rfl⟩)
                    | fail)
                  go_end0
                  exact ⟨rfl, k3, o3, by rw [HFIN.out, if_pos c3]⟩
                · have g1 : ¬ ((mid : Int) < (e : Int) ∧ (e : Int) < (b : Int)) := by omega
                  by_cases c4 : mid < e
                  · have g2 : (mid : Int) < (e : Int) := by omega
                    have g3 : ¬ (e : Int) < (b : Int) := by omega
                    go_wp2
                    go_end0
                    exact ⟨rfl, k, oj, by rw [HFIN.out, if_neg c3]⟩
                  · have g2 : ¬ (mid : Int) < (e : Int) := by omega
                    go_wp2
                    go_end0
                    exact ⟨rfl, k, oj, by rw [HFIN.out, if_neg c3]⟩
              · have f2 : ¬ (a : Int) < (i : Int) := by omega
                go_upto_region 43 with (fail)
                by_cases c3 : mid < e ∧ e < b
                · have g1 : (mid : Int) < (e : Int) := by omega
                  have g2 : (e : Int) < (b : Int) := by omega
                  have hc3 := IH.out mid e b d k oj (by simp) c3.1 c3.2 hb (by omega)
                  go_wp2_with (first
                    | (go_at_call 61; refine hc3.mono ?_; clear hc3; rintro e3 w3 ⟨rfl, k3, o3, rfl⟩)
                    | fail)
                  go_end0
                  exact ⟨rfl, k3, o3, by rw [HFIN.out, if_pos c3]⟩
                · have g1 : ¬ ((mid : Int) < (e : Int) ∧ (e : Int) < (b : Int)) := by omega
                  by_cases c4 : mid < e
                  · have g2 : (mid : Int) < (e : Int) := by omega
                    have g3 : ¬ (e : Int) < (b : Int) := by omega
                    go_wp2
                    go_end0
                    exact ⟨rfl, k, oj, by rw [HFIN.out, if_neg c3]⟩
                  · have g2 : ¬ (mid : Int) < (e : Int) := by omega
                    go_wp2
                    go_end0
                    exact ⟨rfl, k, oj, by rw [HFIN.out, if_neg c3]⟩
          · have e1 : ¬ (i : Int) < (mm : Int) := by omega
            go_upto_region 41 with (fail)
            by_cases c2 : a < i ∧ i < mid
            · have f1 : (a : Int) < (i : Int) := by omega
              have f2 : (i : Int) < (mid : Int) := by omega
              have hc2 := IH.out a i mid d k oj (by simp) c2.1 c2.2 (by omega) (by omega)
              have HF2 := HFIN.out
              rw [if_pos c2] at HF2
              have HFIN : Hid _ := HF2
              clear HF2
              go_upto_region 43 with (first
                | (go_at_call 61; refine hc2.mono ?_; clear hc2; rintro e2 w2 ⟨rfl, k2, o2, rfl⟩)
                | fail)
              by_cases c3 : mid < e ∧ e < b
              · have g1 : (mid : Int) < (e : Int) := by omega
                have g2 : (e : Int) < (b : Int) := by omega
                have hc3 := IH.out mid e b (sym Fd.ltR f a i mid d) k2 o2 (by simp [sym_size]) c3.1 c3.2 hb (by omega)
                go_wp2_with (first
                  | (go_at_call 61; refine hc3.mono ?_; clear hc3; rintro e3 w3 ⟨rfl, k3, o3, rfl⟩)
                  | fail)
                go_end0
                exact ⟨rfl, k3, o3, by rw [HFIN.out, if_pos c3]⟩
              · have g1 : ¬ ((mid : Int) < (e : Int) ∧ (e : Int) < (b : Int)) := by omega
                by_cases c4 : mid < e
                · have g2 : (mid : Int) < (e : Int) := by omega
                  have g3 : ¬ (e : Int) < (b : Int) := by omega
                  go_wp2
                  go_end0
                  exact ⟨rfl, k2, o2, by rw [HFIN.out, if_neg c3]⟩
                · have g2 : ¬ (mid : Int) < (e : Int) := by omega
                  go_wp2
                  go_end0
                  exact ⟨rfl, k2, o2, by rw [HFIN.out, if_neg c3]⟩
            · have f1 : ¬ ((a : Int) < (i : Int) ∧ (i : Int) < (mid : Int)) := by omega
              have HF2 := HFIN.out
              rw [if_neg c2] at HF2
              have HFIN : Hid _ := HF2
              clear HF2
              by_cases c5 : a < i
              · have f2 : (a : Int) < (i : Int) := by omega
                have f3 : ¬ (i : Int) < (mid : Int) := by omega
                go_upto_region 43 with (fail)
                by_cases c3 : mid < e ∧ e < b
                · have g1 : (mid : Int) < (e : Int) := by omega
                  have g2 : (e : Int) < (b : Int) := by omega
                  have hc3 := IH.out mid e b d k oj (by simp) c3.1 c3.2 hb (by omega)
                  go_wp2_with (first
                    | (go_at_call 61; refine hc3.mono ?_; clear hc3; rintro e3 w3 ⟨rfl, k3, o3, rfl⟩)
                    | fail)
                  go_end0
                  exact ⟨rfl, k3, o3, by rw [HFIN.out, if_pos c3]⟩
                · have g1 : ¬ ((mid : Int) < (e : Int) ∧ (e : Int) < (b : Int)) := by omega
                  by_cases c4 : mid < e
                  · have g2 : (mid : Int) < (e : Int) := by omega
                    have g3 : ¬ (e : Int) < (b : Int) := by omega
                    go_wp2
                    go_end0
                    exact ⟨rfl, k, oj, by rw [HFIN.out, if_neg c3]⟩
                  · have g2 : ¬ (mid : Int) < (e : Int) := by omega
                    go_wp2
                    go_end0
                    exact ⟨rfl, k, oj, by rw [HFIN.out, if_neg c3]⟩
              · have f2 : ¬ (a : Int) < (i : Int) := by omega
                go_upto_region 43 with (fail)
                by_cases c3 : mid < e ∧ e < b
                · have g1 : (mid : Int) < (e : Int) := by omega
                  have g2 : (e : Int) < (b : Int) := by omega
                  have hc3 := IH.out mid e b d k oj (by simp) c3.1 c3.2 hb (by omega)
                  go_wp2_with (first
                    | (go_at_call 61; refine hc3.mono ?_; clear hc3; rintro e3 w3 ⟨rfl, k3, o3, rfl⟩)
                    | fail)
                  go_end0
                  exact ⟨rfl, k3, o3, by rw [HFIN.out, if_pos c3]⟩
                · have g1 : ¬ ((mid : Int) < (e : Int) ∧ (e : Int) < (b : Int)) := by omega
                  by_cases c4 : mid < e
                  · have g2 : (mid : Int) < (e : Int) := by omega
                    have g3 : ¬ (e : Int) < (b : Int) := by omega
                    go_wp2
                    go_end0
                    exact ⟨rfl, k, oj, by rw [HFIN.out, if_neg c3]⟩
                  · have g2 : ¬ (mid : Int) < (e : Int) := by omega
                    go_wp2
                    go_end0
                    exact ⟨rfl, k, oj, by rw [HFIN.out, if_neg c3]⟩
  · have q0 : ¬ (mid : Int) < (mm : Int) := by omega
    go_enter Tryz.func61, Tryz.ntmps61
    go_wp2
    go_loopw [20, 21, 23] (fun iv jv _ wr => ∃ (i j k : Nat) (oj : Array Obj), iv = .int .i64 i ∧ jv = .int .i64 j ∧ a ≤ i ∧ i ≤ j ∧ j ≤ mm ∧ wr = sortWorldK cnE 3 w blk 0 k d oj ∧ Hid (bs3 Fd.ltR p i j d = bs3 Fd.ltR p (a) mm d)) (fun iv jv _ _ => (intOf jv).toNat - (intOf iv).toNat)
    case atStart => exact ⟨a, mm, m, os, rfl, rfl, Nat.le_refl _, by omega, Nat.le_refl _, rfl, rfl⟩
    case round =>
      obtain ⟨i, j, k, oj, rfl, rfl, hi1, hij, hjb, rfl, HI⟩ := hrel
      by_cases hlt : i < j
      · have q : (i : Int) < (j : Int) := by omega
        have hHq : HoldsK cnE 3 (sortWorldK cnE 3 w blk 0 k d oj) blk 0 d := holdsK_sortWorldK_c cnE 3 w blk 0 d0 d k oj HH.out hblk hs
        have hbq : blk < (sortWorldK cnE 3 w blk 0 k d oj).heap.size := Nat.lt_of_lt_of_le hblk (size_sortWorldK_c cnE 3 w blk 0 k d oj)
        have CLS : Hid (∀ n os', grow ((sortWorldK cnE 3 w blk 0 k d oj).drewN n) os' = sortWorldK cnE 3 w blk 0 (k + n) d (oj ++ os')) := fun n os' => sortWorldK_grown_c cnE 3 w blk 0 k n d oj os'
        obtain ⟨h, hh⟩ : ∃ h, (i + j) / 2 = h := ⟨_, rfl⟩
        have eh : ((i : Int) + (j : Int)) / 2 = (h : Int) := by omega
        obtain ⟨ph, hph⟩ : ∃ ph, p - h = ph := ⟨_, rfl⟩
        have hpn : h ≤ p := by omega
        have eph : (p : Int) - (h : Int) = (ph : Int) := by omega
        have hhl : h < d.size := by omega
        have hpl : ph < d.size := by omega
        have zh : (h : Int) < (d0.size : Int) := by omega
        have zp : (ph : Int) < (d0.size : Int) := by omega
        have wph : IntKind.i64.wrap (ph : Int) = (ph : Int) := by rw [IntKind.wrap_i64]; omega
        generalize hwq : sortWorldK cnE 3 w blk 0 k d oj = wq at *
        obtain ⟨x0, x1, x2⟩ := Fd.cells_grown hHq hbq hhl
        obtain ⟨y0, y1, y2⟩ := Fd.cells_grown hHq hbq hpl
        have hcmp := Tryz.cmp_grown wq d[ph]! d[h]!
        have HC : Hid (∀ b : Bool, decide (cnC d[ph]! d[h]! < 0) = b → bs3 Fd.ltR p i j d = if b then bs3 Fd.ltR p i h d else bs3 Fd.ltR p (h + 1) j d) := fun b hb => by
          conv => lhs; unfold bs3
          rw [if_pos hlt, hh, hph, Fd.ltR_neg, hb]
        generalize d[h]! = x at *
        generalize d[ph]! = y at *
        generalize cnC y x = c at *
        clear hHq hbq hwq
        go_upto_region 35 with (fail)
        go_quiet_grown (first | (go_at_call 33; refine Calls.grown_of (hcmp _ _)))
        have HW : Hid (grow (wq.drewN nq) osq = sortWorldK cnE 3 w blk 0 (k + nq) d (oj ++ osq)) := CLS.out nq osq
        clear x0 x1 x2 y0 y1 y2 hcmp CLS
        generalize grow (wq.drewN nq) osq = wz at *
        by_cases hc : c < 0
        · have hb1 := HC.out true (decide_eq_true hc)
          have hdc : (!decide (c < 0)) = false := by rw [decide_eq_true hc]; rfl
          have HB1 : Hid (bs3 Fd.ltR p i j d = bs3 Fd.ltR p i h d) := hb1
          clear hb1 HC
          go_wp2
          · exfalso
            rename_i hx
            rw [hdc] at hx
            cases hx
          · rw [hdc] at *
            go_wp2
            first
              | exact ⟨⟨i, h, k + nq, oj ++ osq, rfl, rfl, hi1, by omega, by omega, HW.out, by show _ = _; rw [← HB1.out]; exact HI.out⟩, by simp [intOf]; omega⟩
              | exact ⟨⟨i, rfl, h, rfl, by omega, by omega, by omega, ⟨k + nq, oj ++ osq, HW.out⟩, by show _ = _; rw [← HB1.out]; exact HI.out⟩, by simp [intOf]; omega⟩
        · have hb1 := HC.out false (decide_eq_false hc)
          have hdc : (!decide (c < 0)) = true := by rw [decide_eq_false hc]; rfl
          have HB1 : Hid (bs3 Fd.ltR p i j d = bs3 Fd.ltR p (h + 1) j d) := hb1
          clear hb1 HC
          go_wp2
          all_goals first
            | (exfalso; rename_i hx; rw [hdc] at hx; cases hx; done)
            | exact ⟨⟨h + 1, j, k + nq, oj ++ osq, by simp, rfl, by omega, by omega, hjb, HW.out, by show _ = _; rw [← HB1.out]; exact HI.out⟩, by simp [intOf]; omega⟩
            | exact ⟨⟨h + 1, by simp, j, rfl, by omega, by omega, hjb, ⟨k + nq, oj ++ osq, HW.out⟩, by show _ = _; rw [← HB1.out]; exact HI.out⟩, by simp [intOf]; omega⟩
      · have q : ¬ (i : Int) < (j : Int) := by omega
        have hfin := HI.out
        unfold bs3 at hfin
        rw [if_neg hlt] at hfin
        have hsi : bs3 Fd.ltR p (a) mm d = i := by rw [hfin]; conv => lhs; unfold bs3
        have hsi2 : (if mid < mm then bs3 Fd.ltR (mid + mm - 1) (mid + mm - b) mid d else bs3 Fd.ltR (mid + mm - 1) a mm d) = i := by rw [if_neg hmm, hp]; exact hsi
        clear hfin HI
        obtain ⟨e, hee⟩ : ∃ e, mid + mm - i = e := ⟨_, rfl⟩
        have ee : (mid : Int) + (mm : Int) - (i : Int) = (e : Int) := by omega
        have HFIN : Hid _ := Fd.sym_go (f := f) Fd.ltR d (show ¬ mm - a = 1 by omega) (show ¬ b - mm = 1 by omega) hmid hsi2 hee
        clear hsi2
        by_cases c1 : i < mm ∧ mm < e
        · have e1 : (i : Int) < (mm : Int) := by omega
          have e2 : (mm : Int) < (e : Int) := by omega
          have hc1 := Tryz.rotate_any blk cap i mm e d0 d w k oj HH.out hblk hs c1.1 c1.2 (by omega) hsz (.func (.func 33) #[] #[])
          have HF1 := HFIN.out
          rw [if_pos c1] at HF1
          have HFIN : Hid _ := HF1
          clear HF1
          go_upto_region 41 with (first
            | (go_at_call 80; refine hc1.mono ?_; clear hc1; rintro e1 w1 ⟨rfl, k1, o1, rfl⟩)
            | fail)
          by_cases c2 : a < i ∧ i < mid
          · have f1 : (a : Int) < (i : Int) := by omega
            have f2 : (i : Int) < (mid : Int) := by omega
            have hc2 := IH.out a i mid (rot mm (mm - i) (e - mm) d) k1 o1 (by simp [rot_sz]) c2.1 c2.2 (by omega) (by omega)
            have HF2 := HFIN.out
            rw [if_pos c2] at HF2
            have HFIN : Hid _ := HF2
            clear HF2
            go_upto_region 43 with (first
              | (go_at_call 61; refine hc2.mono ?_; clear hc2; rintro e2 w2 ⟨rfl, k2, o2, rfl⟩)
              | fail)
            by_cases c3 : mid < e ∧ e < b
            · have g1 : (mid : Int) < (e : Int) := by omega
              have g2 : (e : Int) < (b : Int) := by omega
              have hc3 := IH.out mid e b (sym Fd.ltR f a i mid (rot mm (mm - i) (e - mm) d)) k2 o2 (by simp [rot_sz, sym_size]) c3.1 c3.2 hb (by omega)
              go_wp2_with (first
                | (go_at_call 61; refine hc3.mono ?_; clear hc3; rintro e3 w3 ⟨rfl, k3, o3, rfl⟩)
                | fail)
              go_end0
              exact ⟨rfl, k3, o3, by rw [HFIN.out, if_pos c3]⟩
            · have g1 : ¬ ((mid : Int) < (e : Int) ∧ (e : Int) < (b : Int)) := by omega
              by_cases c4 : mid < e
              · have g2 : (mid : Int) < (e : Int) := by omega
                have g3 : ¬ (e : Int) < (b : Int) := by omega
                go_wp2
                go_end0
                exact ⟨rfl, k2, o2, by rw [HFIN.out, if_neg c3]⟩
              · have g2 : ¬ (mid : Int) < (e : Int) := by omega
                go_wp2
                go_end0
                exact ⟨rfl, k2, o2, by rw [HFIN.out, if_neg c3]⟩
          · have f1 : ¬ ((a : Int) < (i : Int) ∧ (i : Int) < (mid : Int)) := by omega
            have HF2 := HFIN.out
            rw [if_neg c2] at HF2
            have HFIN : Hid _ := HF2
            clear HF2
            by_cases c5 : a < i
            · have f2 : (a : Int) < (i : Int) := by omega
              have f3 : ¬ (i : Int) < (mid : Int) := by omega
              go_upto_region 43 with (fail)
              by_cases c3 : mid < e ∧ e < b
              · have g1 : (mid : Int) < (e : Int) := by omega
                have g2 : (e : Int) < (b : Int) := by omega
                have hc3 := IH.out mid e b (rot mm (mm - i) (e - mm) d) k1 o1 (by simp [rot_sz]) c3.1 c3.2 hb (by omega)
                go_wp2_with (first
                  | (go_at_call 61; refine hc3.mono ?_; clear hc3; rintro e3 w3 ⟨rfl, k3, o3, rfl⟩)
                  | fail)
                go_end0
                exact ⟨rfl, k3, o3, by rw [HFIN.out, if_pos c3]⟩
              · have g1 : ¬ ((mid : Int) < (e : Int) ∧ (e : Int) < (b : Int)) := by omega
                by_cases c4 : mid < e
                · have g2 : (mid : Int) < (e : Int) := by omega
                  have g3 : ¬ (e : Int) < (b : Int) := by omega
                  go_wp2
                  go_end0
                  exact ⟨rfl, k1, o1, by rw [HFIN.out, if_neg c3]⟩
                · have g2 : ¬ (mid : Int) < (e : Int) := by omega
                  go_wp2
                  go_end0
                  exact ⟨rfl, k1, o1, by rw [HFIN.out, if_neg c3]⟩
            · have f2 : ¬ (a : Int) < (i : Int) := by omega
              go_upto_region 43 with (fail)
              by_cases c3 : mid < e ∧ e < b
              · have g1 : (mid : Int) < (e : Int) := by omega
                have g2 : (e : Int) < (b : Int) := by omega
                have hc3 := IH.out mid e b (rot mm (mm - i) (e - mm) d) k1 o1 (by simp [rot_sz]) c3.1 c3.2 hb (by omega)
                go_wp2_with (first
                  | (go_at_call 61; refine hc3.mono ?_; clear hc3; rintro e3 w3 ⟨rfl, k3, o3, rfl⟩)
                  | fail)
                go_end0
                exact ⟨rfl, k3, o3, by rw [HFIN.out, if_pos c3]⟩
              · have g1 : ¬ ((mid : Int) < (e : Int) ∧ (e : Int) < (b : Int)) := by omega
                by_cases c4 : mid < e
                · have g2 : (mid : Int) < (e : Int) := by omega
                  have g3 : ¬ (e : Int) < (b : Int) := by omega
                  go_wp2
                  go_end0
                  exact ⟨rfl, k1, o1, by rw [HFIN.out, if_neg c3]⟩
                · have g2 : ¬ (mid : Int) < (e : Int) := by omega
                  go_wp2
                  go_end0
                  exact ⟨rfl, k1, o1, by rw [HFIN.out, if_neg c3]⟩
        · have HF1 := HFIN.out
          rw [if_neg c1] at HF1
          have HFIN : Hid _ := HF1
          clear HF1
          by_cases c6 : i < mm
          · have e1 : (i : Int) < (mm : Int) := by omega
            have e2 : ¬ (mm : Int) < (e : Int) := by omega
            go_upto_region 41 with (fail)
            by_cases c2 : a < i ∧ i < mid
            · have f1 : (a : Int) < (i : Int) := by omega
              have f2 : (i : Int) < (mid : Int) := by omega
              have hc2 := IH.out a i mid d k oj (by simp) c2.1 c2.2 (by omega) (by omega)
              have HF2 := HFIN.out
              rw [if_pos c2] at HF2
              have HFIN : Hid _ := HF2
              clear HF2
              go_upto_region 43 with (first
                | (go_at_call 61; refine hc2.mono ?_; clear hc2; rintro e2 w2 ⟨rfl, k2, o2, rfl⟩)
                | fail)
              by_cases c3 : mid < e ∧ e < b
              · have g1 : (mid : Int) < (e : Int) := by omega
                have g2 : (e : Int) < (b : Int) := by omega
                have hc3 := IH.out mid e b (sym Fd.ltR f a i mid d) k2 o2 (by simp [sym_size]) c3.1 c3.2 hb (by omega)
                go_wp2_with (first
                  | (go_at_call 61; refine hc3.mono ?_; clear hc3; rintro e3 w3 ⟨rfl, k3, o3, rfl⟩)
                  | fail)
                go_end0
                exact ⟨rfl, k3, o3, by rw [HFIN.out, if_pos c3]⟩
              · have g1 : ¬ ((mid : Int) < (e : Int) ∧ (e : Int) < (b : Int)) := by omega
                by_cases c4 : mid < e
                · have g2 : (mid : Int) < (e : Int) := by omega
                  have g3 : ¬ (e : Int) < (b : Int) := by omega
                  go_wp2
                  go_end0
                  exact ⟨rfl, k2, o2, by rw [HFIN.out, if_neg c3]⟩
                · have g2 : ¬ (mid : Int) < (e : Int) := by omega
                  go_wp2
                  go_end0
                  exact ⟨rfl, k2, o2, by rw [HFIN.out, if_neg c3]⟩
            · have f1 : ¬ ((a : Int) < (i : Int) ∧ (i : Int) < (mid : Int)) := by omega
              have HF2 := HFIN.out
              rw [if_neg c2] at HF2
              have HFIN : Hid _ := HF2
              clear HF2
              by_cases c5 : a < i
              · have f2 : (a : Int) < (i : Int) := by omega
                have f3 : ¬ (i : Int) < (mid : Int) := by omega
                go_upto_region 43 with (fail)
                by_cases c3 : mid < e ∧ e < b
                · have g1 : (mid : Int) < (e : Int) := by omega
                  have g2 : (e : Int) < (b : Int) := by omega
                  have hc3 := IH.out mid e b d k oj (by simp) c3.1 c3.2 hb (by omega)
                  go_wp2_with (first
                    | (go_at_call 61; refine hc3.mono ?_; clear hc3; rintro e3 w3 ⟨rfl, k3, o3, rfl⟩)
                    | fail)
                  go_end0
                  exact ⟨rfl, k3, o3, by rw [HFIN.out, if_pos c3]⟩
                · have g1 : ¬ ((mid : Int) < (e : Int) ∧ (e : Int) < (b : Int)) := by omega
                  by_cases c4 : mid < e
                  · have g2 : (mid : Int) < (e : Int) := by omega
                    have g3 : ¬ (e : Int) < (b : Int) := by omega
                    go_wp2
                    go_end0
                    exact ⟨rfl, k, oj, by rw [HFIN.out, if_neg c3]⟩
                  · have g2 : ¬ (mid : Int) < (e : Int) := by omega
                    go_wp2
                    go_end0
                    exact ⟨rfl, k, oj, by rw [HFIN.out, if_neg c3]⟩
              · have f2 : ¬ (a : Int) < (i : Int) := by omega
                go_upto_region 43 with (fail)
                by_cases c3 : mid < e ∧ e < b
                · have g1 : (mid : Int) < (e : Int) := by omega
                  have g2 : (e : Int) < (b : Int) := by omega
                  have hc3 := IH.out mid e b d k oj (by simp) c3.1 c3.2 hb (by omega)
                  go_wp2_with (first
                    | (go_at_call 61; refine hc3.mono ?_; clear hc3; rintro e3 w3 ⟨rfl, k3, o3, rfl⟩)
                    | fail)
                  go_end0
                  exact ⟨rfl, k3, o3, by rw [HFIN.out, if_pos c3]⟩
                · have g1 : ¬ ((mid : Int) < (e : Int) ∧ (e : Int) < (b : Int)) := by omega
                  by_cases c4 : mid < e
                  · have g2 : (mid : Int) < (e : Int) := by omega
                    have g3 : ¬ (e : Int) < (b : Int) := by omega
                    go_wp2
                    go_end0
                    exact ⟨rfl, k, oj, by rw [HFIN.out, if_neg c3]⟩
                  · have g2 : ¬ (mid : Int) < (e : Int) := by omega
                    go_wp2
                    go_end0
                    exact ⟨rfl, k, oj, by rw [HFIN.out, if_neg c3]⟩
          · have e1 : ¬ (i : Int) < (mm : Int) := by omega
            go_upto_region 41 with (fail)
            by_cases c2 : a < i ∧ i < mid
            · have f1 : (a : Int) < (i : Int) := by omega
              have f2 : (i : Int) < (mid : Int) := by omega
              have hc2 := IH.out a i mid d k oj (by simp) c2.1 c2.2 (by omega) (by omega)
              have HF2 := HFIN.out
              rw [if_pos c2] at HF2
              have HFIN : Hid _ := HF2
              clear HF2
              go_upto_region 43 with (first
                | (go_at_call 61; refine hc2.mono ?_; clear hc2; rintro e2 w2 ⟨rfl, k2, o2, rfl⟩)
                | fail)
              by_cases c3 : mid < e ∧ e < b
              · have g1 : (mid : Int) < (e : Int) := by omega
                have g2 : (e : Int) < (b : Int) := by omega
                have hc3 := IH.out mid e b (sym Fd.ltR f a i mid d) k2 o2 (by simp [sym_size]) c3.1 c3.2 hb (by omega)
                go_wp2_with (first
                  | (go_at_call 61; refine hc3.mono ?_; clear hc3; rintro e3 w3 ⟨rfl, k3, o3, rfl⟩)
                  | fail)
                go_end0
                exact ⟨rfl, k3, o3, by rw [HFIN.out, if_pos c3]⟩
              · have g1 : ¬ ((mid : Int) < (e : Int) ∧ (e : Int) < (b : Int)) := by omega
                by_cases c4 : mid < e
                · have g2 : (mid : Int) < (e : Int) := by omega
                  have g3 : ¬ (e : Int) < (b : Int) := by omega
                  go_wp2
                  go_end0
                  exact ⟨rfl, k2, o2, by rw [HFIN.out, if_neg c3]⟩
                · have g2 : ¬ (mid : Int) < (e : Int) := by omega
                  go_wp2
                  go_end0
                  exact ⟨rfl, k2, o2, by rw [HFIN.out, if_neg c3]⟩
            · have f1 : ¬ ((a : Int) < (i : Int) ∧ (i : Int) < (mid : Int)) := by omega
              have HF2 := HFIN.out
              rw [if_neg c2] at HF2
              have HFIN : Hid _ := HF2
              clear HF2
              by_cases c5 : a < i
              · have f2 : (a : Int) < (i : Int) := by omega
                have f3 : ¬ (i : Int) < (mid : Int) := by omega
                go_upto_region 43 with (fail)
                by_cases c3 : mid < e ∧ e < b
                · have g1 : (mid : Int) < (e : Int) := by omega
                  have g2 : (e : Int) < (b : Int) := by omega
                  have hc3 := IH.out mid e b d k oj (by simp) c3.1 c3.2 hb (by omega)
                  go_wp2_with (first
                    | (go_at_call 61; refine hc3.mono ?_; clear hc3; rintro e3 w3 ⟨rfl, k3, o3, rfl⟩)
                    | fail)
                  go_end0
                  exact ⟨rfl, k3, o3, by rw [HFIN.out, if_pos c3]⟩
                · have g1 : ¬ ((mid : Int) < (e : Int) ∧ (e : Int) < (b : Int)) := by omega
                  by_cases c4 : mid < e
                  · have g2 : (mid : Int) < (e : Int) := by omega
                    have g3 : ¬ (e : Int) < (b : Int) := by omega
                    go_wp2
                    go_end0
                    exact ⟨rfl, k, oj, by rw [HFIN.out, if_neg c3]⟩
                  · have g2 : ¬ (mid : Int) < (e : Int) := by omega
                    go_wp2
                    go_end0
                    exact ⟨rfl, k, oj, by rw [HFIN.out, if_neg c3]⟩
              · have f2 : ¬ (a : Int) < (i : Int) := by omega
                go_upto_region 43 with (fail)
                by_cases c3 : mid < e ∧ e < b
                · have g1 : (mid : Int) < (e : Int) := by omega
                  have g2 : (e : Int) < (b : Int) := by omega
                  have hc3 := IH.out mid e b d k oj (by simp) c3.1 c3.2 hb (by omega)
                  go_wp2_with (first
                    | (go_at_call 61; refine hc3.mono ?_; clear hc3; rintro e3 w3 ⟨rfl, k3, o3, rfl⟩)
                    | fail)
                  go_end0
                  exact ⟨rfl, k3, o3, by rw [HFIN.out, if_pos c3]⟩
                · have g1 : ¬ ((mid : Int) < (e : Int) ∧ (e : Int) < (b : Int)) := by omega
                  by_cases c4 : mid < e
                  · have g2 : (mid : Int) < (e : Int) := by omega
                    have g3 : ¬ (e : Int) < (b : Int) := by omega
                    go_wp2
                    go_end0
                    exact ⟨rfl, k, oj, by rw [HFIN.out, if_neg c3]⟩
                  · have g2 : ¬ (mid : Int) < (e : Int) := by omega
                    go_wp2
                    go_end0
                    exact ⟨rfl, k, oj, by rw [HFIN.out, if_neg c3]⟩
end Go.Proofs
