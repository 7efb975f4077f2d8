/-
  FEED: symMerge, whatever its parts; the stable sort.
-/
import Derived.Test.YtdhgpkacilcfgaaGreatDoorFeC
namespace Go.Proofs
open Go.Shelf Go.RowKit Go.Wi Go.Fd Go.Sort
theorem Tryz.sym_any (blk cap : Nat) (d0 : Array Cn) (w : World) (hH : HoldsK cnE 3 w blk 0 d0) (hblk : blk < w.heap.size) (hsz : d0.size < 4611686018427387904) : ∀ (f a mm b : Nat) (d : Array Cn) (m : Nat) (os : Array Obj), d.size = d0.size → a < mm → mm < b → b ≤ d.size → b - a ≤ f →
    Calls Tryz.prog 61 #[.slice (some ⟨blk, 0, none⟩) d0.size cap, .int .i64 a, .int .i64 mm, .int .i64 b, .func (.func 33) #[] #[]] (sortWorldK cnE 3 w blk 0 m d os) fun e w' => e = .returned (.tuple #[]) ∧ ∃ m' os', w' = sortWorldK cnE 3 w blk 0 m' (sym Fd.ltR f a mm b d) os' := by
  intro f
  induction f with
  | zero => intro a mm b d m os _ h1 h2 _ h4; omega
  | succ f ih =>
    intro a mm b d m os hs h1 h2 h3 h4
    by_cases hl : mm - a = 1
    · obtain rfl : mm = a + 1 := by omega
      have := Tryz.sym_left blk cap a b d0 d w m os hH hblk hs h2 h3 (by omega)
      have e : sym Fd.ltR (f + 1) a (a + 1) b d = shR (bs1 Fd.ltR a (a + 1) b d - 1) a d := by
        conv => lhs; unfold sym
        rw [if_pos hl]
      rw [e]
      exact this
    · by_cases hr : b - mm = 1
      · obtain rfl : b = mm + 1 := by omega
        have := Tryz.sym_right blk cap a mm d0 d w m os hH hblk hs (by omega) h3 (by omega)
        have e : sym Fd.ltR (f + 1) a mm (mm + 1) d = shL (bs2 Fd.ltR mm a mm d) mm d := by
          conv => lhs; unfold sym
          rw [if_neg hl, if_pos hr]
        rw [e]
        exact this
      · exact Tryz.sym_mid blk cap f a mm b d0 d w m os hH hblk hs (by omega) (by omega) h3 (by omega) h4 fun a' m' b' dk k ok k1 k2 k3 k4 k5 => ih a' m' b' dk k ok (by omega) k2 k3 (by omega) k5
theorem Fd.insB_go {α : Type} [Inhabited α] (lt : α → α → Bool) {n a : Nat} (d : Array α) (h : a + 20 ≤ n) : insB lt n a d = insB lt n (a + 20) (insertionSort lt d a (a + 20)) := by
  conv => lhs; unfold insB
  rw [if_pos h]
theorem Fd.insB_stop {α : Type} [Inhabited α] (lt : α → α → Bool) {n a : Nat} (d : Array α) (h : ¬ a + 20 ≤ n) : insB lt n a d = insertionSort lt d a n := by
  conv => lhs; unfold insB
  rw [if_neg h]
theorem Fd.merI_go {α : Type} [Inhabited α] (lt : α → α → Bool) {n bs a : Nat} (d : Array α) (h : a + 2 * bs ≤ n) (hb : 0 < bs) : merI lt n bs a d = merI lt n bs (a + 2 * bs) (sym lt n a (a + bs) (a + 2 * bs) d) := by
  conv => lhs; unfold merI
  rw [dif_pos ⟨h, hb⟩]
theorem Fd.merI_stop {α : Type} [Inhabited α] (lt : α → α → Bool) {n bs a : Nat} (d : Array α) (h : ¬ a + 2 * bs ≤ n) : merI lt n bs a d = if a + bs < n then sym lt n a (a + bs) n d else d := by
  conv => lhs; unfold merI
  rw [dif_neg (fun e => h e.1)]
theorem Fd.merO_go {α : Type} [Inhabited α] (lt : α → α → Bool) {n bs : Nat} (d : Array α) (h : bs < n) (hb : 0 < bs) : merO lt n bs d = merO lt n (bs * 2) (merI lt n bs 0 d) := by
  conv => lhs; unfold merO
  rw [dif_pos ⟨h, hb⟩]
theorem Fd.merO_stop {α : Type} [Inhabited α] (lt : α → α → Bool) {n bs : Nat} (d : Array α) (h : ¬ bs < n) : merO lt n bs d = d := by
  conv => lhs; unfold merO
  rw [dif_neg (fun e => h e.1)]
set_option maxHeartbeats 2000000 in
set_option maxRecDepth 100000 in
theorem Tryz.stable_any (blk cap : Nat) (d : Array Cn) (w : World) (hH : HoldsK cnE 3 w blk 0 d) (hblk : blk < w.heap.size) (hsz : d.size ≤ 1152921504606846976) :
    Calls Tryz.prog 51 #[.slice (some ⟨blk, 0, none⟩) d.size cap, .int .i64 d.size, .func (.func 33) #[] #[]] w fun e w' => e = .returned (.tuple #[]) ∧ ∃ n os, w' = sortWorldK cnE 3 w blk 0 n (stabA Fd.ltR d) os := by
  have HST : Hid (w = sortWorldK cnE 3 w blk 0 0 d #[]) := by show w = _; unfold sortWorldK; rw [grow_empty]; exact (putRowK_self cnE 3 w blk 0 d hH).symm
  have HIN : Hid (∀ (a b : Nat) (dk : Array Cn) (k : Nat) (ok : Array Obj), dk.size = d.size → a ≤ b → b ≤ d.size → Calls Tryz.prog 60 #[.slice (some ⟨blk, 0, none⟩) d.size cap, .int .i64 a, .int .i64 b, .func (.func 33) #[] #[]] (sortWorldK cnE 3 w blk 0 k dk ok) fun e w' => e = .returned (.tuple #[]) ∧ ∃ n os, w' = sortWorldK cnE 3 w blk 0 n (Sort.insertionSort Fd.ltR dk a b) os) := fun a b dk k ok h1 h2 h3 => Tryz.insertion_w blk cap a b d dk w k ok hH hblk h1 h2 (by omega) (by omega)
  have HSY : Hid (∀ (a mm b : Nat) (dk : Array Cn) (k : Nat) (ok : Array Obj), dk.size = d.size → a < mm → mm < b → b ≤ d.size → Calls Tryz.prog 61 #[.slice (some ⟨blk, 0, none⟩) d.size cap, .int .i64 a, .int .i64 mm, .int .i64 b, .func (.func 33) #[] #[]] (sortWorldK cnE 3 w blk 0 k dk ok) fun e w' => e = .returned (.tuple #[]) ∧ ∃ m' os', w' = sortWorldK cnE 3 w blk 0 m' (sym Fd.ltR d.size a mm b dk) os') := fun a mm b dk k ok h1 h2 h3 h4 => Tryz.sym_any blk cap d w hH hblk (by omega) d.size a mm b dk k ok h1 h2 h3 (by omega) (by omega)
  clear hH
  go_enter Tryz.func51, Tryz.ntmps51
  go_wp2
  go_loopw [7, 8] (fun av bv wr => ∃ (a k : Nat) (dk : Array Cn) (ok : Array Obj), av = .int .i64 a ∧ bv = .int .i64 ((a + 20 : Nat) : Int) ∧ a ≤ d.size ∧ dk.size = d.size ∧ wr = sortWorldK cnE 3 w blk 0 k dk ok ∧ Hid (insB Fd.ltR d.size a dk = insB Fd.ltR d.size 0 d)) (fun av _ _ => d.size - (intOf av).toNat)
  case atStart => exact ⟨0, 0, d, #[], rfl, rfl, Nat.zero_le _, rfl, HST.out, rfl⟩
  case round =>
    obtain ⟨a, k, dk, ok, rfl, rfl, ha, hds, rfl, HI⟩ := hrel
    by_cases h20 : a + 20 ≤ d.size
    · have q : ((a + 20 : Nat) : Int) ≤ (d.size : Int) := by omega
      have hc := HIN.out a (a + 20) dk k ok hds (by omega) h20
      have hin := HI.out
      rw [Fd.insB_go Fd.ltR dk h20] at hin
      have HI2 : Hid _ := hin
      clear HI hin
      generalize hB : ((a + 20 : Nat) : Int) = B at *
      go_wp2_with (first
        | (go_at_call 60; refine hc.mono ?_; clear hc; rintro e w1 ⟨rfl, n1, o1, rfl⟩)
        | fail)
      exact ⟨⟨a + 20, n1, Sort.insertionSort Fd.ltR dk a (a + 20), o1, by rw [hB], by rw [← hB]; first | (simp; done) | (simp; omega), h20, by rw [ins_sz]; exact hds, rfl, HI2.out⟩, by simp [intOf]; omega⟩
    · have q : ¬ ((a + 20 : Nat) : Int) ≤ (d.size : Int) := by omega
      have hc := HIN.out a d.size dk k ok hds ha (Nat.le_refl _)
      have hin := HI.out
      rw [Fd.insB_stop Fd.ltR dk h20] at hin
      have HI2 : Hid _ := hin
      clear HI hin
      generalize hB : ((a + 20 : Nat) : Int) = B at *
      go_upto_region 7 with (first
        | (go_at_call 60; refine hc.mono ?_; clear hc; rintro e w1 ⟨rfl, n1, o1, rfl⟩)
        | fail)
      have HST2 : Hid (stabA Fd.ltR d = merO Fd.ltR d.size 20 (Sort.insertionSort Fd.ltR dk a d.size)) := by show _ = _; unfold stabA; rw [← HI2.out]
      have hds1 : (Sort.insertionSort Fd.ltR dk a d.size).size = d.size := by rw [ins_sz]; exact hds
      clear HI2 hB q h20 ha hds HIN
      generalize Sort.insertionSort Fd.ltR dk a d.size = d1 at *
      go_loopw [6, 7, 8, 9] (fun sv _ _ _ wr => ∃ (bs k : Nat) (dk : Array Cn) (ok : Array Obj), sv = .int .i64 bs ∧ 20 ≤ bs ∧ bs ≤ 2 * d.size + 20 ∧ dk.size = d.size ∧ wr = sortWorldK cnE 3 w blk 0 k dk ok ∧ Hid (stabA Fd.ltR d = merO Fd.ltR d.size bs dk)) (fun sv _ _ _ _ => 2 * d.size + 40 - (intOf sv).toNat)
      case atStart => exact ⟨20, n1, d1, o1, rfl, Nat.le_refl _, by omega, hds1, rfl, HST2.out⟩
      case round =>
        obtain ⟨bs, k, dk, ok, rfl, hb1, hb2, hds, rfl, HI⟩ := hrel
        by_cases hlt : bs < d.size
        · have q : (bs : Int) < (d.size : Int) := by omega
          have hin := HI.out
          rw [Fd.merO_go Fd.ltR dk hlt (by omega)] at hin
          have HI2 : Hid _ := hin
          clear HI hin
          go_upto_region 9 with (fail)
          go_loopw [7, 8] (fun av bv wr => ∃ (a2 k2 : Nat) (dm : Array Cn) (om : Array Obj), av = .int .i64 a2 ∧ bv = .int .i64 ((a2 + 2 * bs : Nat) : Int) ∧ a2 ≤ d.size ∧ dm.size = d.size ∧ wr = sortWorldK cnE 3 w blk 0 k2 dm om ∧ Hid (merI Fd.ltR d.size bs a2 dm = merI Fd.ltR d.size bs 0 dk)) (fun av _ _ => d.size - (intOf av).toNat)
          case atStart => exact ⟨0, k, dk, ok, rfl, by simp, Nat.zero_le _, hds, rfl, rfl⟩
          case round =>
            obtain ⟨a2, k2, dm, om, rfl, rfl, ha2, hdm, rfl, HJ⟩ := hrel
            have eab : (a2 : Int) + (bs : Int) = ((a2 + bs : Nat) : Int) := by omega
            by_cases h2 : a2 + 2 * bs ≤ d.size
            · have q2 : ((a2 + 2 * bs : Nat) : Int) ≤ (d.size : Int) := by omega
              have hc := HSY.out a2 (a2 + bs) (a2 + 2 * bs) dm k2 om hdm (by omega) (by omega) h2
              have hjn := HJ.out
              rw [Fd.merI_go Fd.ltR dm h2 (by omega)] at hjn
              have HJ2 : Hid _ := hjn
              clear HJ hjn
              obtain ⟨C, hC⟩ : ∃ C : Int, ((a2 + 2 * bs : Nat) : Int) = C := ⟨_, rfl⟩
              rw [← eab] at hc
              rw [hC] at hc q2 ⊢
              have HC : Hid (((a2 + 2 * bs : Nat) : Int) = C) := hC
              have hCb : 0 ≤ C ∧ C ≤ 1152921504606846976 := by omega
              have hCw : C + 2 * (bs : Int) ≤ 9223372036854775807 := by omega
              clear hC eab
              go_wp2_with (first
                | (go_at_call 61; refine hc.mono ?_; clear hc; rintro e w3 ⟨rfl, n3, o3, rfl⟩)
                | fail)
              exact ⟨⟨a2 + 2 * bs, n3, sym Fd.ltR d.size a2 (a2 + bs) (a2 + 2 * bs) dm, o3, by rw [HC.out], by rw [← HC.out]; first | (congr 1; done) | (congr 1; omega), h2, by rw [sym_size]; exact hdm, rfl, HJ2.out⟩, by have := HC.out; simp [intOf]; omega⟩
            · have q2 : ¬ ((a2 + 2 * bs : Nat) : Int) ≤ (d.size : Int) := by omega
              have hjn := HJ.out
              rw [Fd.merI_stop Fd.ltR dm h2] at hjn
              have hin := HI2.out
              rw [← hjn] at hin
              obtain ⟨C, hC⟩ : ∃ C : Int, ((a2 + 2 * bs : Nat) : Int) = C := ⟨_, rfl⟩
              rw [hC] at q2 ⊢
              clear hC HJ hjn HI2
              by_cases h3 : a2 + bs < d.size
              · rw [if_pos h3] at hin
                have HK : Hid _ := hin
                have q3 : (a2 : Int) + (bs : Int) < (d.size : Int) := by omega
                have hc := HSY.out a2 (a2 + bs) d.size dm k2 om hdm (by omega) h3 (Nat.le_refl _)
                rw [← eab] at hc
                clear hin eab
                go_wp2_with (first
                  | (go_at_call 61; refine hc.mono ?_; clear hc; rintro e w3 ⟨rfl, n3, o3, rfl⟩)
                  | fail)
                exact ⟨⟨bs * 2, n3, sym Fd.ltR d.size a2 (a2 + bs) d.size dm, o3, by first | rfl | (simp; done), by omega, by omega, by rw [sym_size]; exact hdm, rfl, HK.out⟩, by simp [intOf]; omega⟩
              · rw [if_neg h3] at hin
                have HK : Hid _ := hin
                have q3 : ¬ (a2 : Int) + (bs : Int) < (d.size : Int) := by omega
                clear hin eab
                go_wp2
                exact ⟨⟨bs * 2, k2, dm, om, by first | rfl | (simp; done), by omega, by omega, hdm, rfl, HK.out⟩, by simp [intOf]; omega⟩
        · have q : ¬ (bs : Int) < (d.size : Int) := by omega
          have hin := HI.out
          rw [Fd.merO_stop Fd.ltR dk hlt] at hin
          have HI2 : Hid _ := hin
          clear HI hin
          go_wp2
          go_end0
          exact ⟨rfl, k, ok, by rw [HI2.out]⟩
end Go.Proofs
