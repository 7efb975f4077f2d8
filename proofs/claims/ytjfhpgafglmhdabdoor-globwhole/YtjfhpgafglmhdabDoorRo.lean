/-
  THE DOCUMENT'S GLOB: 'goes', walked.
-/
import Derived.Test.YtjfhpgafglmhdabDoorRm
import Derived.Test.YtjfhpgafglmhdabDoorRs
import Derived.Test.YtjfhpgafglmhdabDoorRefSign
namespace Go.Gl
open Go.Sg
/-- One sign further, by the first K parts. -/
def nq (l : List P) (g : Nat → Bool) (c K : Nat) : Nat → Bool
  | 0 => decide (0 < K) && (g 0 && decide (l[0]? = some .any))
  | n + 1 => (decide (n + 1 < K) && (g (n + 1) && decide (l[n + 1]? = some .any))) || (decide (n < K) && (g n && (decide (l[n]? = some .one) || decide (l[n]? = some (.fix c)))))
theorem nq_zero (l : List P) (g : Nat → Bool) (c : Nat) : ∀ j, nq l g c 0 j = false
  | 0 => rfl
  | n + 1 => by simp [nq]
theorem nq_full (l : List P) (g : Nat → Bool) (c : Nat) : ∀ j, j ≤ l.length → nq l g c l.length j = nx l g c j
  | 0, _ => by
    rw [nq, nx]
    by_cases h : 0 < l.length
    · simp [h]
    · have : l[0]? = none := List.getElem?_eq_none_iff.2 (by omega)
      simp [this]
  | n + 1, hj => by
    rw [nq, nx]
    have h1 : decide (n < l.length) = true := decide_eq_true (by omega)
    rw [h1, Bool.true_and]
    by_cases h : n + 1 < l.length
    · simp [h]
    · have : l[n + 1]? = none := List.getElem?_eq_none_iff.2 (by omega)
      simp [this]
theorem nq_same {l : List P} {g : Nat → Bool} {c K : Nat} (h1 : (g K && decide (l[K]? = some .any)) = false) (h2 : (g K && (decide (l[K]? = some .one) || decide (l[K]? = some (.fix c)))) = false) : ∀ j, nq l g c (K + 1) j = nq l g c K j
  | 0 => by
    rw [nq, nq]
    by_cases hk : K = 0
    · subst hk; rw [h1]; simp
    · have e1 : decide (0 < K + 1) = true := decide_eq_true (by omega)
      have e2 : decide (0 < K) = true := decide_eq_true (by omega)
      rw [e1, e2]
  | n + 1 => by
    rw [nq, nq]
    congr 1
    · by_cases hk : K = n + 1
      · subst hk; rw [h1]; simp
      · have : decide (n + 1 < K + 1) = decide (n + 1 < K) := by rw [Bool.eq_iff_iff, decide_eq_true_eq, decide_eq_true_eq]; omega
        rw [this]
    · by_cases hk : K = n
      · subst hk; rw [h2]; simp
      · have : decide (n < K + 1) = decide (n < K) := by rw [Bool.eq_iff_iff, decide_eq_true_eq, decide_eq_true_eq]; omega
        rw [this]
theorem nq_here {l : List P} {g : Nat → Bool} {c K : Nat} (h1 : (g K && decide (l[K]? = some .any)) = true) (h2 : (g K && (decide (l[K]? = some .one) || decide (l[K]? = some (.fix c)))) = false) : ∀ j, nq l g c (K + 1) j = if j = K then true else nq l g c K j := by
  intro j
  by_cases hj : j = K
  · subst hj
    rw [if_pos rfl]
    cases j with
    | zero => rw [nq, h1]; rfl
    | succ n => rw [nq, h1]; simp
  · rw [if_neg hj]
    cases j with
    | zero =>
      rw [nq, nq]
      have e1 : decide (0 < K + 1) = true := decide_eq_true (by omega)
      have e2 : decide (0 < K) = true := decide_eq_true (by omega)
      rw [e1, e2]
    | succ n =>
      rw [nq, nq]
      congr 1
      · have : decide (n + 1 < K + 1) = decide (n + 1 < K) := by rw [Bool.eq_iff_iff, decide_eq_true_eq, decide_eq_true_eq]; omega
        rw [this]
      · by_cases hk : K = n
        · subst hk; rw [h2]; simp
        · have : decide (n < K + 1) = decide (n < K) := by rw [Bool.eq_iff_iff, decide_eq_true_eq, decide_eq_true_eq]; omega
          rw [this]
theorem nq_next {l : List P} {g : Nat → Bool} {c K : Nat} (h1 : (g K && decide (l[K]? = some .any)) = false) (h2 : (g K && (decide (l[K]? = some .one) || decide (l[K]? = some (.fix c)))) = true) : ∀ j, nq l g c (K + 1) j = if j = K + 1 then true else nq l g c K j := by
  intro j
  by_cases hj : j = K + 1
  · subst hj
    rw [if_pos rfl, nq, h2]
    have e : decide (K < K + 1) = true := decide_eq_true (by omega)
    rw [e]; simp
  · rw [if_neg hj]
    cases j with
    | zero =>
      rw [nq, nq]
      by_cases hk : K = 0
      · subst hk; rw [h1]; simp
      · have e1 : decide (0 < K + 1) = true := decide_eq_true (by omega)
        have e2 : decide (0 < K) = true := decide_eq_true (by omega)
        rw [e1, e2]
    | succ n =>
      rw [nq, nq]
      congr 1
      · by_cases hk : K = n + 1
        · subst hk; rw [h1]; simp
        · have : decide (n + 1 < K + 1) = decide (n + 1 < K) := by rw [Bool.eq_iff_iff, decide_eq_true_eq, decide_eq_true_eq]; omega
          rw [this]
      · have : decide (n < K + 1) = decide (n < K) := by rw [Bool.eq_iff_iff, decide_eq_true_eq, decide_eq_true_eq]; omega
        rw [this]
end Go.Gl
namespace Go.Proofs
open Go.RowKit Go.Gl
theorem Tryd.info_boolR : (Tryd.prog.info? 4).map (fun i => (i.zero, i.size, i.bytes)) = some (some (.bool false), 1, 1) := by kernel_rfl
theorem Tryd.makeB (n : Nat) (hn : n ≤ 1000) (w : World) : ∃ w1, (Instr.makeSlice 68 (.int .i64 ((n : Int) + 1)) (.int .i64 ((n : Int) + 1))).run Tryd.prog w = .ok (.slice (some ⟨w.heap.size, 0, none⟩) (n + 1) (n + 1)) w1 ∧ Below w.heap.size w w1 ∧ w1.heap.size = w.heap.size + 1 ∧ w1.rowIs w.heap.size 4 (n + 1) (fun _ => .bool false) := by
  have hmk := run_make_row' (P := Tryd.prog) 68 4 (.bool false) 1 Tryd.underlying68 Tryd.info_boolR rfl .i64 .i64 (n + 1) (by omega) (by omega)
  exact ⟨_, hmk w, (Below.refl w.heap.size w).alloc (Nat.le_refl _) _, by simp, World.rowIs_made w (.bool false) (n + 1) 4⟩
set_option maxRecDepth 100000 in
set_option maxHeartbeats 16000000 in
theorem Tryd.goes_any (ps : List P) (v : Value) (x : Nat) (F : ByteArray) (fr till : Nat → Bool) (b1 b2 c1 c2 : Nat) (w : World) (hR : Tryd.Rr w x w.heap.size ps v) (hl : ps.length ≤ 100) (hok : ∀ r, .fix r ∈ ps → Ok r)
    (hF : F.size ≤ 140737488355324) (hpc : ∀ n, Sg.posn F n < F.size → F.extract (Sg.posn F n) (Sg.posn F n + Sg.wd F (Sg.posn F n)) = Gl.T (Lib.encodeRune ((Utf8.decode F (Sg.posn F n)).1 : Int)) ∧ Ok (Utf8.decode F (Sg.posn F n)).1)
    (hb1 : b1 < w.heap.size) (hb2 : b2 < w.heap.size) (hr1 : w.rowIs b1 4 (F.size + 1) (fun i => .bool (fr i))) (hr2 : w.rowIs b2 4 (F.size + 1) (fun i => .bool (till i))) :
    Calls Tryd.prog 33 #[.pointer (some ⟨x, 0, none⟩), .string F, .slice (some ⟨b1, 0, none⟩) (F.size + 1) c1, .slice (some ⟨b2, 0, none⟩) (F.size + 1) c2] w fun e w' => e = .returned (.bool (goF ps F fr till (F.size + 1) 0 (fun _ => false))) ∧ Below w.heap.size w w' := by
  obtain ⟨a, c, rfl⟩ := hR.len
  obtain ⟨w0, hmk, hb0, hs0, hrow0⟩ := Tryd.makeB ps.length (by omega) w
  have HR : Hid (Tryd.Rr w x w.heap.size ps (.slice a ps.length c)) := hR
  have hc0 := hR.cell
  have HR1 : Hid (w.rowIs b1 4 (F.size + 1) (fun i => .bool (fr i))) := hr1
  have HR2 : Hid (w.rowIs b2 4 (F.size + 1) (fun i => .bool (till i))) := hr2
  have HPC : Hid (∀ n, Sg.posn F n < F.size → F.extract (Sg.posn F n) (Sg.posn F n + Sg.wd F (Sg.posn F n)) = Gl.T (Lib.encodeRune ((Utf8.decode F (Sg.posn F n)).1 : Int)) ∧ Ok (Utf8.decode F (Sg.posn F n)).1) := hpc
  have HOK : Hid (∀ r, .fix r ∈ ps → Ok r) := hok
  generalize hG0 : goF ps F fr till (F.size + 1) 0 (fun _ => false) = G0
  have HG0 : Hid (goF ps F fr till (F.size + 1) 0 (fun _ => false) = G0) := hG0
  clear hR hr1 hr2 hpc hok hG0
  go_enter Tryd.func33, Tryd.ntmps33
  go_wp2
  clear hmk hc0
  go_loopw [10, 11] (fun iv i wr => ∃ (n fuel r : Nat) (f : Nat → Bool), iv = .slice (some ⟨r, 0, none⟩) (ps.length + 1) (ps.length + 1) ∧ i = .int .i64 (Sg.posn F n) ∧ w.heap.size ≤ r ∧ r < wr.heap.size ∧ wr.rowIs r 4 (ps.length + 1) (fun j => .bool (f j)) ∧ Below w.heap.size w wr ∧ goF ps F fr till fuel (Sg.posn F n) f = G0 ∧ F.size + 1 ≤ Sg.posn F n + fuel) (fun _ i _ => F.size - (intOf i).toNat)
  case atStart => exact ⟨0, F.size + 1, w.heap.size, fun _ => false, rfl, rfl, Nat.le_refl _, by omega, hrow0, hb0, HG0.out, by show F.size + 1 ≤ 0 + (F.size + 1); omega⟩
  case round =>
    obtain ⟨n, fuel, r, f, rfl, rfl, hwr, hrl, hrow, hbw, hacc, hfu⟩ := hrel
    have hple := Sg.posn_le F n
    obtain ⟨fu, rfl⟩ : ∃ fu, fuel = fu + 1 := ⟨fuel - 1, by omega⟩
    have hbW := hbw.size
    have cf : wr.cell? ⟨b1, Sg.posn F n, none⟩ = some (.bool (fr (Sg.posn F n))) := (hbw.cell (p := ⟨b1, Sg.posn F n, none⟩) hb1).trans (HR1.out.cell (by omega))
    have ct : ∀ W, Below w.heap.size w W → W.cell? ⟨b2, Sg.posn F n, none⟩ = some (.bool (till (Sg.posn F n))) := fun W hW => (hW.cell (p := ⟨b2, Sg.posn F n, none⟩) hb2).trans (HR2.out.cell (by omega))
    have CT : Hid _ := ct
    have cz := hrow.cell (i := 0) (by omega)
    have fz := hrow.frozen 0
    have e0 : (Sg.posn F n : Int) < (F.size : Int) + 1 := by omega
    have e1 : (ps.length : Int) < (ps.length : Int) + 1 := by omega
    have e2 : (0 : Int) < (ps.length : Int) + 1 := by omega
    rw [goF] at hacc
    have HFUEL : Hid (F.size + 1 ≤ Sg.posn F n + (fu + 1)) := hfu
    clear hfu ct
    cases hfr : fr (Sg.posn F n) with
    | true =>
      rw [hfr] at cf hacc
      have hrow1 : (wr.setCell ⟨r, 0, none⟩ (.bool true)).rowIs r 4 (ps.length + 1) (fun j => .bool ((j == 0 && true) || f j)) := (hrow.set 0 (.bool true)).congr fun i _ => by
        by_cases hi : i = 0
        · subst hi; rfl
        · rw [if_neg hi]; simp [hi]
      have hbw1 : Below w.heap.size w (wr.setCell ⟨r, 0, none⟩ (.bool true)) := hbw.setCell (p := ⟨r, 0, none⟩) hwr _
      have hrl1 : r < (wr.setCell ⟨r, 0, none⟩ (.bool true)).heap.size := by simp [World.setCell]; exact hrl
      have hst := Tryd.still_any ps _ x w.heap.size r _ _ (HR.out.keep hbw1 (Nat.le_refl _)) hwr hrow1 hrl1 hl
      clear hrow hfr
      generalize hGG : spF ps (fun n => (n == 0 && true) || f n) = GG at *
      have hst2 := hst.mono (R' := fun e W => e = .returned (.tuple #[]) ∧ Below w.heap.size w W ∧ r < W.heap.size ∧ W.rowIs r 4 (ps.length + 1) (fun i => .bool (GG i)) ∧ W.cell? ⟨r, ps.length, none⟩ = some (.bool (GG ps.length)) ∧ W.cell? ⟨b2, Sg.posn F n, none⟩ = some (.bool (till (Sg.posn F n)))) (by
        rintro e W ⟨h1, h2, h3, h4⟩
        have hbW2 : Below w.heap.size w W := hbw1.grown h2 (by have := hbw1.size; omega) (fun j hj => by simp at hj; omega)
        exact ⟨h1, hbW2, by omega, h4, h4.cell (by omega), CT.out W hbW2⟩)
      clear hst hrow1 hbw1 hrl1
      generalize hGL : GG ps.length = GL at *
      generalize hTL : till (Sg.posn F n) = TL at *
      cases GL with
      | true =>
        cases TL with
        | true =>
          rw [if_pos (show (true && true) = true from rfl)] at hacc
          have Hacc : Hid _ := hacc
          clear hacc
          go_wp2_with (first
            | (go_at_call 46; refine hst2.mono ?_; clear hst2; rintro e2 w2 ⟨rfl, hb2', hr2l, hrow2, cl2, ct2⟩)
            | fail)
          go_ret
          exact ⟨Sg.ret_bool Hacc.out, hb2'⟩
        | false =>
          rw [if_neg (by simp)] at hacc
          by_cases hend : Sg.posn F n = F.size
          · rw [if_pos hend] at hacc
            have Hacc : Hid _ := hacc
            have q1 : ((Sg.posn F n : Int) == (F.size : Int)) = true := beq_iff_eq.2 (by omega)
            clear hacc hend
            go_wp2_with (first
              | (go_at_call 46; refine hst2.mono ?_; clear hst2; rintro e2 w2 ⟨rfl, hb2', hr2l, hrow2, cl2, ct2⟩)
              | fail)
            go_ret
            exact ⟨Sg.ret_bool Hacc.out, hb2'⟩
          · rw [if_neg hend] at hacc
            have hp : Sg.posn F n < F.size := by omega
            have q1 : ((Sg.posn F n : Int) == (F.size : Int)) = false := by rw [beq_eq_false_iff_ne]; omega
            have hsg := fun W => Tryd.refSign_any F (Sg.posn F n) hp (by omega) W
            obtain ⟨hpc, hkc⟩ := HPC.out n hp
            have hsp := Sg.posn_step F n hp
            have hnle := Sg.posn_le F (n + 1)
            have hwd := Sg.wd_pos F (Sg.posn F n)
            have HSP : Hid _ := hsp
            have HKC : Hid _ := hkc
            unfold Sg.wd at hpc hsp hwd
            have hin : Sg.posn F n + (Utf8.decode F (Sg.posn F n)).2 ≤ F.size := by rw [← hsp]; exact hnle
            have hsp' := hsp
            have HSP2 : Hid (Sg.posn F (n + 1) = Sg.posn F n + (Utf8.decode F (Sg.posn F n)).2) := hsp'
            clear hsp hsp' hnle hend HPC HSP
            generalize hC : (Utf8.decode F (Sg.posn F n)).1 = C at *
            generalize hK : (Utf8.decode F (Sg.posn F n)).2 = K at *
            have Hacc : Hid _ := hacc
            clear hacc hC hK
            have e5 : (Sg.posn F n : Int) + (K : Int) ≤ (F.size : Int) := by omega
            have hst3 := hst2.mono (R' := fun e W => (e = .returned (.tuple #[]) ∧ Below w.heap.size w W ∧ r < W.heap.size ∧ W.rowIs r 4 (ps.length + 1) (fun i => .bool (GG i)) ∧ W.cell? ⟨r, ps.length, none⟩ = some (.bool (GG ps.length)) ∧ W.cell? ⟨b2, Sg.posn F n, none⟩ = some (.bool (till (Sg.posn F n)))) ∧ ∃ w3, (Instr.makeSlice 68 (.int .i64 ((ps.length : Int) + 1)) (.int .i64 ((ps.length : Int) + 1))).run Tryd.prog W = .ok (.slice (some ⟨W.heap.size, 0, none⟩) (ps.length + 1) (ps.length + 1)) w3 ∧ Below W.heap.size W w3 ∧ w3.heap.size = W.heap.size + 1 ∧ w3.rowIs W.heap.size 4 (ps.length + 1) (fun _ => .bool false)) (by
              rintro e W h
              rw [hGL, hTL]
              exact ⟨h, Tryd.makeB ps.length (by omega) W⟩)
            rw [hGL, hTL] at hst3
            clear hst2 hGL hTL
            go_wp2_with (first
              | (go_at_call 46; refine hst3.mono ?_; clear hst3; rintro e2 w2 ⟨⟨rfl, hb2', hr2l, hrow2, cl2, ct2⟩, w3, hmk3, hb3, hs3, hrow3⟩)
              | (go_at_call 38; refine (hsg _).mono ?_; clear hsg; rintro e3 w4 ⟨rfl, hw4⟩; obtain rfl := hw4.symm)
              | fail)
            have hrow23 := hrow2.of_block (hb3.block r hr2l)
            have hbw3 : Below w.heap.size w w3 := hb2'.trans (hb3.mono hb2'.size)
            have hs2 := hb2'.size
            clear hmk3 hrow2 cl2 ct2 cf cz fz hbw hrl
            go_loopw [17] (fun i wi => ∃ k : Nat, k ≤ ps.length ∧ i = .int .i64 k ∧ wi.rowIs r 4 (ps.length + 1) (fun j => .bool (GG j)) ∧ wi.rowIs w2.heap.size 4 (ps.length + 1) (fun j => .bool (nq ps GG C k j)) ∧ Below w.heap.size w wi ∧ wi.heap.size = w3.heap.size) (fun i _ => ps.length - (intOf i).toNat)
            case atStart => exact ⟨0, by omega, rfl, hrow23, hrow3.congr (fun j _ => by rw [nq_zero]), hbw3, rfl⟩
            case round =>
              obtain ⟨k, hk, rfl, hrA, hrB, hbi, hsi⟩ := hrel
              have hRi := HR.out.keep hbi (Nat.le_refl _)
              have d1 := hRi.cell
              by_cases hlt : k < ps.length
              · obtain ⟨p, hpk⟩ : ∃ p, ps[k]? = some p := ⟨_, List.getElem?_eq_getElem hlt⟩
                obtain ⟨g, rfl, hgB, ck, cs⟩ := hRi.at hpk
                have ca := hrA.cell (i := k) (by omega)
                have cb0 := hrB.cell (i := k) (by omega)
                have fb0 := hrB.frozen k
                have cb1 := hrB.cell (i := k + 1) (by omega)
                have fb1 := hrB.frozen (k + 1)
                have e6 : (k : Int) < (ps.length : Int) := by omega
                have e7 : (k : Int) < (ps.length : Int) + 1 := by omega
                have e8 : (k : Int) + 1 < (ps.length : Int) + 1 := by omega
                have hne : r ≠ w2.heap.size := by omega
                have same : (∀ j, nq ps GG C (k + 1) j = nq ps GG C k j) → ∃ k_1 : Nat, k_1 ≤ ps.length ∧ Value.int .i64 ((k : Int) + 1) = .int .i64 k_1 ∧ wr.rowIs r 4 (ps.length + 1) (fun j => .bool (GG j)) ∧ wr.rowIs w2.heap.size 4 (ps.length + 1) (fun j => .bool (nq ps GG C k_1 j)) ∧ Below w.heap.size w wr ∧ wr.heap.size = w3.heap.size := fun h =>
                  ⟨k + 1, by omega, by rw [Int.natCast_add]; rfl, hrA, hrB.congr (fun j _ => by rw [h j]), hbi, hsi⟩
                have setk : ∀ q, (∀ j, nq ps GG C (k + 1) j = if j = q then true else nq ps GG C k j) → ∃ k_1 : Nat, k_1 ≤ ps.length ∧ Value.int .i64 ((k : Int) + 1) = .int .i64 k_1 ∧ (wr.setCell ⟨w2.heap.size, q, none⟩ (.bool true)).rowIs r 4 (ps.length + 1) (fun j => .bool (GG j)) ∧ (wr.setCell ⟨w2.heap.size, q, none⟩ (.bool true)).rowIs w2.heap.size 4 (ps.length + 1) (fun j => .bool (nq ps GG C k_1 j)) ∧ Below w.heap.size w (wr.setCell ⟨w2.heap.size, q, none⟩ (.bool true)) ∧ (wr.setCell ⟨w2.heap.size, q, none⟩ (.bool true)).heap.size = w3.heap.size := fun q h =>
                  ⟨k + 1, by omega, by rw [Int.natCast_add]; rfl, hrA.of_block (Below.heap_setCell wr _ _ r hne), (hrB.set q (.bool true)).congr (fun j _ => by rw [h j]; by_cases hj : j = q <;> simp [hj]), hbi.setCell (p := ⟨w2.heap.size, q, none⟩) hs2 _, by rw [← hsi]; simp [World.setCell]⟩
                have SAME : Hid _ := same
                have SETK : Hid _ := setk
                have HPK : Hid _ := hpk
                clear same setk hrA hrB hRi hbi hsi
                cases hgk : GG k with
                | false =>
                  rw [hgk] at ca
                  have HGK : Hid _ := hgk
                  clear hgk hpk
                  go_wp2
                  go_roundw
                  case rel => exact SAME.out (nq_same (by rw [HGK.out]; rfl) (by rw [HGK.out]; rfl))
                  case measure => simp [intOf]; omega
                | true =>
                  rw [hgk] at ca
                  have HGK : Hid _ := hgk
                  clear hgk
                  cases p with
                  | any =>
                    simp only [P.kind, signT] at ck cs
                    clear hpk
                    go_wp2
                    go_roundw
                    case rel => exact SETK.out k (nq_here (by rw [HGK.out, HPK.out]; rfl) (by rw [HGK.out, HPK.out]; rfl))
                    case measure => simp [intOf]; omega
                  | one =>
                    simp only [P.kind, signT] at ck cs
                    clear hpk
                    go_wp2
                    go_roundw
                    case rel => exact SETK.out (k + 1) (nq_next (by rw [HGK.out, HPK.out]; rfl) (by rw [HGK.out, HPK.out]; rfl))
                    case measure => simp [intOf]; omega
                  | fix q =>
                    simp only [P.kind, signT] at ck cs
                    have hkq := HOK.out q (List.mem_of_getElem? hpk)
                    have hse := sign_eq hkq HKC.out
                    clear hpk
                    by_cases hqc : q = C
                    · have hse' : ((Gl.T (Lib.encodeRune (q : Int))).toList == (Gl.T (Lib.encodeRune (C : Int))).toList) = true := by rw [hse]; exact decide_eq_true hqc
                      have HQC : Hid _ := hqc
                      clear hse hkq hqc
                      generalize Gl.T (Lib.encodeRune (q : Int)) = S1 at *
                      generalize Gl.T (Lib.encodeRune (C : Int)) = S2 at *
                      go_wp2
                      go_roundw
                      case rel => exact SETK.out (k + 1) (nq_next (by rw [HGK.out, HPK.out]; rfl) (by rw [HGK.out, HPK.out, HQC.out]; simp))
                      case measure => simp [intOf]; omega
                    · have hse' : ((Gl.T (Lib.encodeRune (q : Int))).toList == (Gl.T (Lib.encodeRune (C : Int))).toList) = false := by rw [hse]; exact decide_eq_false hqc
                      have HQC : Hid _ := hqc
                      clear hse hkq hqc
                      generalize Gl.T (Lib.encodeRune (q : Int)) = S1 at *
                      generalize Gl.T (Lib.encodeRune (C : Int)) = S2 at *
                      go_wp2
                      go_roundw
                      case rel => exact SAME.out (nq_same (by rw [HGK.out, HPK.out]; rfl) (by rw [HGK.out, HPK.out]; simp; exact HQC.out))
                      case measure => simp [intOf]; omega
              · have e6 : ¬ (k : Int) < (ps.length : Int) := by omega
                have hkL : k = ps.length := by omega
                have hrB' : wr.rowIs w2.heap.size 4 (ps.length + 1) (fun j => .bool (nx ps GG C j)) := hrB.congr (fun j hj => by rw [hkL, nq_full _ _ _ j (by omega)])
                have HRB : Hid _ := hrB'
                have hfu2 : F.size + 1 ≤ Sg.posn F (n + 1) + fu := by rw [HSP2.out]; have := HFUEL.out; omega
                have HFU : Hid _ := hfu2
                clear hfu2
                clear hrA hrB hrB' hkL
                go_wp2
                go_roundw
                case rel => exact ⟨n + 1, fu, w2.heap.size, nx ps GG C, rfl, by rw [HSP2.out, Int.natCast_add], by omega, by omega, HRB.out, hbi, by rw [HSP2.out]; exact Hacc.out, HFU.out⟩
                case measure => simp [intOf]; omega
      | false =>
        rw [if_neg (by simp)] at hacc
        by_cases hend : Sg.posn F n = F.size
        · rw [if_pos hend] at hacc
          have Hacc : Hid _ := hacc
          have q1 : ((Sg.posn F n : Int) == (F.size : Int)) = true := beq_iff_eq.2 (by omega)
          clear hacc hend
          go_wp2_with (first
            | (go_at_call 46; refine hst2.mono ?_; clear hst2; rintro e2 w2 ⟨rfl, hb2', hr2l, hrow2, cl2, ct2⟩)
            | fail)
          go_ret
          exact ⟨Sg.ret_bool Hacc.out, hb2'⟩
        · rw [if_neg hend] at hacc
          have hp : Sg.posn F n < F.size := by omega
          have q1 : ((Sg.posn F n : Int) == (F.size : Int)) = false := by rw [beq_eq_false_iff_ne]; omega
          have hsg := fun W => Tryd.refSign_any F (Sg.posn F n) hp (by omega) W
          obtain ⟨hpc, hkc⟩ := HPC.out n hp
          have hsp := Sg.posn_step F n hp
          have hnle := Sg.posn_le F (n + 1)
          have hwd := Sg.wd_pos F (Sg.posn F n)
          have HSP : Hid _ := hsp
          have HKC : Hid _ := hkc
          unfold Sg.wd at hpc hsp hwd
          have hin : Sg.posn F n + (Utf8.decode F (Sg.posn F n)).2 ≤ F.size := by rw [← hsp]; exact hnle
          have hsp' := hsp
          have HSP2 : Hid (Sg.posn F (n + 1) = Sg.posn F n + (Utf8.decode F (Sg.posn F n)).2) := hsp'
          clear hsp hsp' hnle hend HPC HSP
          generalize hC : (Utf8.decode F (Sg.posn F n)).1 = C at *
          generalize hK : (Utf8.decode F (Sg.posn F n)).2 = K at *
          have Hacc : Hid _ := hacc
          clear hacc hC hK
          have e5 : (Sg.posn F n : Int) + (K : Int) ≤ (F.size : Int) := by omega
          have hst3 := hst2.mono (R' := fun e W => (e = .returned (.tuple #[]) ∧ Below w.heap.size w W ∧ r < W.heap.size ∧ W.rowIs r 4 (ps.length + 1) (fun i => .bool (GG i)) ∧ W.cell? ⟨r, ps.length, none⟩ = some (.bool (GG ps.length)) ∧ W.cell? ⟨b2, Sg.posn F n, none⟩ = some (.bool (till (Sg.posn F n)))) ∧ ∃ w3, (Instr.makeSlice 68 (.int .i64 ((ps.length : Int) + 1)) (.int .i64 ((ps.length : Int) + 1))).run Tryd.prog W = .ok (.slice (some ⟨W.heap.size, 0, none⟩) (ps.length + 1) (ps.length + 1)) w3 ∧ Below W.heap.size W w3 ∧ w3.heap.size = W.heap.size + 1 ∧ w3.rowIs W.heap.size 4 (ps.length + 1) (fun _ => .bool false)) (by
            rintro e W h
            rw [hGL, hTL]
            exact ⟨h, Tryd.makeB ps.length (by omega) W⟩)
          rw [hGL, hTL] at hst3
          clear hst2 hGL hTL
          go_wp2_with (first
            | (go_at_call 46; refine hst3.mono ?_; clear hst3; rintro e2 w2 ⟨⟨rfl, hb2', hr2l, hrow2, cl2, ct2⟩, w3, hmk3, hb3, hs3, hrow3⟩)
            | (go_at_call 38; refine (hsg _).mono ?_; clear hsg; rintro e3 w4 ⟨rfl, hw4⟩; obtain rfl := hw4.symm)
            | fail)
          have hrow23 := hrow2.of_block (hb3.block r hr2l)
          have hbw3 : Below w.heap.size w w3 := hb2'.trans (hb3.mono hb2'.size)
          have hs2 := hb2'.size
          clear hmk3 hrow2 cl2 ct2 cf cz fz hbw hrl
          go_loopw [17] (fun i wi => ∃ k : Nat, k ≤ ps.length ∧ i = .int .i64 k ∧ wi.rowIs r 4 (ps.length + 1) (fun j => .bool (GG j)) ∧ wi.rowIs w2.heap.size 4 (ps.length + 1) (fun j => .bool (nq ps GG C k j)) ∧ Below w.heap.size w wi ∧ wi.heap.size = w3.heap.size) (fun i _ => ps.length - (intOf i).toNat)
          case atStart => exact ⟨0, by omega, rfl, hrow23, hrow3.congr (fun j _ => by rw [nq_zero]), hbw3, rfl⟩
          case round =>
            obtain ⟨k, hk, rfl, hrA, hrB, hbi, hsi⟩ := hrel
            have hRi := HR.out.keep hbi (Nat.le_refl _)
            have d1 := hRi.cell
            by_cases hlt : k < ps.length
            · obtain ⟨p, hpk⟩ : ∃ p, ps[k]? = some p := ⟨_, List.getElem?_eq_getElem hlt⟩
              obtain ⟨g, rfl, hgB, ck, cs⟩ := hRi.at hpk
              have ca := hrA.cell (i := k) (by omega)
              have cb0 := hrB.cell (i := k) (by omega)
              have fb0 := hrB.frozen k
              have cb1 := hrB.cell (i := k + 1) (by omega)
              have fb1 := hrB.frozen (k + 1)
              have e6 : (k : Int) < (ps.length : Int) := by omega
              have e7 : (k : Int) < (ps.length : Int) + 1 := by omega
              have e8 : (k : Int) + 1 < (ps.length : Int) + 1 := by omega
              have hne : r ≠ w2.heap.size := by omega
              have same : (∀ j, nq ps GG C (k + 1) j = nq ps GG C k j) → ∃ k_1 : Nat, k_1 ≤ ps.length ∧ Value.int .i64 ((k : Int) + 1) = .int .i64 k_1 ∧ wr.rowIs r 4 (ps.length + 1) (fun j => .bool (GG j)) ∧ wr.rowIs w2.heap.size 4 (ps.length + 1) (fun j => .bool (nq ps GG C k_1 j)) ∧ Below w.heap.size w wr ∧ wr.heap.size = w3.heap.size := fun h =>
                ⟨k + 1, by omega, by rw [Int.natCast_add]; rfl, hrA, hrB.congr (fun j _ => by rw [h j]), hbi, hsi⟩
              have setk : ∀ q, (∀ j, nq ps GG C (k + 1) j = if j = q then true else nq ps GG C k j) → ∃ k_1 : Nat, k_1 ≤ ps.length ∧ Value.int .i64 ((k : Int) + 1) = .int .i64 k_1 ∧ (wr.setCell ⟨w2.heap.size, q, none⟩ (.bool true)).rowIs r 4 (ps.length + 1) (fun j => .bool (GG j)) ∧ (wr.setCell ⟨w2.heap.size, q, none⟩ (.bool true)).rowIs w2.heap.size 4 (ps.length + 1) (fun j => .bool (nq ps GG C k_1 j)) ∧ Below w.heap.size w (wr.setCell ⟨w2.heap.size, q, none⟩ (.bool true)) ∧ (wr.setCell ⟨w2.heap.size, q, none⟩ (.bool true)).heap.size = w3.heap.size := fun q h =>
                ⟨k + 1, by omega, by rw [Int.natCast_add]; rfl, hrA.of_block (Below.heap_setCell wr _ _ r hne), (hrB.set q (.bool true)).congr (fun j _ => by rw [h j]; by_cases hj : j = q <;> simp [hj]), hbi.setCell (p := ⟨w2.heap.size, q, none⟩) hs2 _, by rw [← hsi]; simp [World.setCell]⟩
              have SAME : Hid _ := same
              have SETK : Hid _ := setk
              have HPK : Hid _ := hpk
              clear same setk hrA hrB hRi hbi hsi
              cases hgk : GG k with
              | false =>
                rw [hgk] at ca
                have HGK : Hid _ := hgk
                clear hgk hpk
                go_wp2
                go_roundw
                case rel => exact SAME.out (nq_same (by rw [HGK.out]; rfl) (by rw [HGK.out]; rfl))
                case measure => simp [intOf]; omega
              | true =>
                rw [hgk] at ca
                have HGK : Hid _ := hgk
                clear hgk
                cases p with
                | any =>
                  simp only [P.kind, signT] at ck cs
                  clear hpk
                  go_wp2
                  go_roundw
                  case rel => exact SETK.out k (nq_here (by rw [HGK.out, HPK.out]; rfl) (by rw [HGK.out, HPK.out]; rfl))
                  case measure => simp [intOf]; omega
                | one =>
                  simp only [P.kind, signT] at ck cs
                  clear hpk
                  go_wp2
                  go_roundw
                  case rel => exact SETK.out (k + 1) (nq_next (by rw [HGK.out, HPK.out]; rfl) (by rw [HGK.out, HPK.out]; rfl))
                  case measure => simp [intOf]; omega
                | fix q =>
                  simp only [P.kind, signT] at ck cs
                  have hkq := HOK.out q (List.mem_of_getElem? hpk)
                  have hse := sign_eq hkq HKC.out
                  clear hpk
                  by_cases hqc : q = C
                  · have hse' : ((Gl.T (Lib.encodeRune (q : Int))).toList == (Gl.T (Lib.encodeRune (C : Int))).toList) = true := by rw [hse]; exact decide_eq_true hqc
                    have HQC : Hid _ := hqc
                    clear hse hkq hqc
                    generalize Gl.T (Lib.encodeRune (q : Int)) = S1 at *
                    generalize Gl.T (Lib.encodeRune (C : Int)) = S2 at *
                    go_wp2
                    go_roundw
                    case rel => exact SETK.out (k + 1) (nq_next (by rw [HGK.out, HPK.out]; rfl) (by rw [HGK.out, HPK.out, HQC.out]; simp))
                    case measure => simp [intOf]; omega
                  · have hse' : ((Gl.T (Lib.encodeRune (q : Int))).toList == (Gl.T (Lib.encodeRune (C : Int))).toList) = false := by rw [hse]; exact decide_eq_false hqc
                    have HQC : Hid _ := hqc
                    clear hse hkq hqc
                    generalize Gl.T (Lib.encodeRune (q : Int)) = S1 at *
                    generalize Gl.T (Lib.encodeRune (C : Int)) = S2 at *
                    go_wp2
                    go_roundw
                    case rel => exact SAME.out (nq_same (by rw [HGK.out, HPK.out]; rfl) (by rw [HGK.out, HPK.out]; simp; exact HQC.out))
                    case measure => simp [intOf]; omega
            · have e6 : ¬ (k : Int) < (ps.length : Int) := by omega
              have hkL : k = ps.length := by omega
              have hrB' : wr.rowIs w2.heap.size 4 (ps.length + 1) (fun j => .bool (nx ps GG C j)) := hrB.congr (fun j hj => by rw [hkL, nq_full _ _ _ j (by omega)])
              have HRB : Hid _ := hrB'
              have hfu2 : F.size + 1 ≤ Sg.posn F (n + 1) + fu := by rw [HSP2.out]; have := HFUEL.out; omega
              have HFU : Hid _ := hfu2
              clear hfu2
              clear hrA hrB hrB' hkL
              go_wp2
              go_roundw
              case rel => exact ⟨n + 1, fu, w2.heap.size, nx ps GG C, rfl, by rw [HSP2.out, Int.natCast_add], by omega, by omega, HRB.out, hbi, by rw [HSP2.out]; exact Hacc.out, HFU.out⟩
              case measure => simp [intOf]; omega
    | false =>
      rw [hfr] at cf hacc
      have hrow1 : wr.rowIs r 4 (ps.length + 1) (fun j => .bool ((j == 0 && false) || f j)) := hrow.congr fun i _ => by simp
      have hbw1 := hbw
      have hrl1 := hrl
      have hst := Tryd.still_any ps _ x w.heap.size r _ _ (HR.out.keep hbw1 (Nat.le_refl _)) hwr hrow1 hrl1 hl
      clear hrow hfr
      generalize hGG : spF ps (fun n => (n == 0 && false) || f n) = GG at *
      have hst2 := hst.mono (R' := fun e W => e = .returned (.tuple #[]) ∧ Below w.heap.size w W ∧ r < W.heap.size ∧ W.rowIs r 4 (ps.length + 1) (fun i => .bool (GG i)) ∧ W.cell? ⟨r, ps.length, none⟩ = some (.bool (GG ps.length)) ∧ W.cell? ⟨b2, Sg.posn F n, none⟩ = some (.bool (till (Sg.posn F n)))) (by
        rintro e W ⟨h1, h2, h3, h4⟩
        have hbW2 : Below w.heap.size w W := hbw1.grown h2 (by have := hbw1.size; omega) (fun j hj => by simp at hj; omega)
        exact ⟨h1, hbW2, by omega, h4, h4.cell (by omega), CT.out W hbW2⟩)
      clear hst hrow1 hbw1 hrl1
      generalize hGL : GG ps.length = GL at *
      generalize hTL : till (Sg.posn F n) = TL at *
      cases GL with
      | true =>
        cases TL with
        | true =>
          rw [if_pos (show (true && true) = true from rfl)] at hacc
          have Hacc : Hid _ := hacc
          clear hacc
          go_wp2_with (first
            | (go_at_call 46; refine hst2.mono ?_; clear hst2; rintro e2 w2 ⟨rfl, hb2', hr2l, hrow2, cl2, ct2⟩)
            | fail)
          go_ret
          exact ⟨Sg.ret_bool Hacc.out, hb2'⟩
        | false =>
          rw [if_neg (by simp)] at hacc
          by_cases hend : Sg.posn F n = F.size
          · rw [if_pos hend] at hacc
            have Hacc : Hid _ := hacc
            have q1 : ((Sg.posn F n : Int) == (F.size : Int)) = true := beq_iff_eq.2 (by omega)
            clear hacc hend
            go_wp2_with (first
              | (go_at_call 46; refine hst2.mono ?_; clear hst2; rintro e2 w2 ⟨rfl, hb2', hr2l, hrow2, cl2, ct2⟩)
              | fail)
            go_ret
            exact ⟨Sg.ret_bool Hacc.out, hb2'⟩
          · rw [if_neg hend] at hacc
            have hp : Sg.posn F n < F.size := by omega
            have q1 : ((Sg.posn F n : Int) == (F.size : Int)) = false := by rw [beq_eq_false_iff_ne]; omega
            have hsg := fun W => Tryd.refSign_any F (Sg.posn F n) hp (by omega) W
            obtain ⟨hpc, hkc⟩ := HPC.out n hp
            have hsp := Sg.posn_step F n hp
            have hnle := Sg.posn_le F (n + 1)
            have hwd := Sg.wd_pos F (Sg.posn F n)
            have HSP : Hid _ := hsp
            have HKC : Hid _ := hkc
            unfold Sg.wd at hpc hsp hwd
            have hin : Sg.posn F n + (Utf8.decode F (Sg.posn F n)).2 ≤ F.size := by rw [← hsp]; exact hnle
            have hsp' := hsp
            have HSP2 : Hid (Sg.posn F (n + 1) = Sg.posn F n + (Utf8.decode F (Sg.posn F n)).2) := hsp'
            clear hsp hsp' hnle hend HPC HSP
            generalize hC : (Utf8.decode F (Sg.posn F n)).1 = C at *
            generalize hK : (Utf8.decode F (Sg.posn F n)).2 = K at *
            have Hacc : Hid _ := hacc
            clear hacc hC hK
            have e5 : (Sg.posn F n : Int) + (K : Int) ≤ (F.size : Int) := by omega
            have hst3 := hst2.mono (R' := fun e W => (e = .returned (.tuple #[]) ∧ Below w.heap.size w W ∧ r < W.heap.size ∧ W.rowIs r 4 (ps.length + 1) (fun i => .bool (GG i)) ∧ W.cell? ⟨r, ps.length, none⟩ = some (.bool (GG ps.length)) ∧ W.cell? ⟨b2, Sg.posn F n, none⟩ = some (.bool (till (Sg.posn F n)))) ∧ ∃ w3, (Instr.makeSlice 68 (.int .i64 ((ps.length : Int) + 1)) (.int .i64 ((ps.length : Int) + 1))).run Tryd.prog W = .ok (.slice (some ⟨W.heap.size, 0, none⟩) (ps.length + 1) (ps.length + 1)) w3 ∧ Below W.heap.size W w3 ∧ w3.heap.size = W.heap.size + 1 ∧ w3.rowIs W.heap.size 4 (ps.length + 1) (fun _ => .bool false)) (by
              rintro e W h
              rw [hGL, hTL]
              exact ⟨h, Tryd.makeB ps.length (by omega) W⟩)
            rw [hGL, hTL] at hst3
            clear hst2 hGL hTL
            go_wp2_with (first
              | (go_at_call 46; refine hst3.mono ?_; clear hst3; rintro e2 w2 ⟨⟨rfl, hb2', hr2l, hrow2, cl2, ct2⟩, w3, hmk3, hb3, hs3, hrow3⟩)
              | (go_at_call 38; refine (hsg _).mono ?_; clear hsg; rintro e3 w4 ⟨rfl, hw4⟩; obtain rfl := hw4.symm)
              | fail)
            have hrow23 := hrow2.of_block (hb3.block r hr2l)
            have hbw3 : Below w.heap.size w w3 := hb2'.trans (hb3.mono hb2'.size)
            have hs2 := hb2'.size
            clear hmk3 hrow2 cl2 ct2 cf cz fz hbw hrl
            go_loopw [17] (fun i wi => ∃ k : Nat, k ≤ ps.length ∧ i = .int .i64 k ∧ wi.rowIs r 4 (ps.length + 1) (fun j => .bool (GG j)) ∧ wi.rowIs w2.heap.size 4 (ps.length + 1) (fun j => .bool (nq ps GG C k j)) ∧ Below w.heap.size w wi ∧ wi.heap.size = w3.heap.size) (fun i _ => ps.length - (intOf i).toNat)
            case atStart => exact ⟨0, by omega, rfl, hrow23, hrow3.congr (fun j _ => by rw [nq_zero]), hbw3, rfl⟩
            case round =>
              obtain ⟨k, hk, rfl, hrA, hrB, hbi, hsi⟩ := hrel
              have hRi := HR.out.keep hbi (Nat.le_refl _)
              have d1 := hRi.cell
              by_cases hlt : k < ps.length
              · obtain ⟨p, hpk⟩ : ∃ p, ps[k]? = some p := ⟨_, List.getElem?_eq_getElem hlt⟩
                obtain ⟨g, rfl, hgB, ck, cs⟩ := hRi.at hpk
                have ca := hrA.cell (i := k) (by omega)
                have cb0 := hrB.cell (i := k) (by omega)
                have fb0 := hrB.frozen k
                have cb1 := hrB.cell (i := k + 1) (by omega)
                have fb1 := hrB.frozen (k + 1)
                have e6 : (k : Int) < (ps.length : Int) := by omega
                have e7 : (k : Int) < (ps.length : Int) + 1 := by omega
                have e8 : (k : Int) + 1 < (ps.length : Int) + 1 := by omega
                have hne : r ≠ w2.heap.size := by omega
                have same : (∀ j, nq ps GG C (k + 1) j = nq ps GG C k j) → ∃ k_1 : Nat, k_1 ≤ ps.length ∧ Value.int .i64 ((k : Int) + 1) = .int .i64 k_1 ∧ wr.rowIs r 4 (ps.length + 1) (fun j => .bool (GG j)) ∧ wr.rowIs w2.heap.size 4 (ps.length + 1) (fun j => .bool (nq ps GG C k_1 j)) ∧ Below w.heap.size w wr ∧ wr.heap.size = w3.heap.size := fun h =>
                  ⟨k + 1, by omega, by rw [Int.natCast_add]; rfl, hrA, hrB.congr (fun j _ => by rw [h j]), hbi, hsi⟩
                have setk : ∀ q, (∀ j, nq ps GG C (k + 1) j = if j = q then true else nq ps GG C k j) → ∃ k_1 : Nat, k_1 ≤ ps.length ∧ Value.int .i64 ((k : Int) + 1) = .int .i64 k_1 ∧ (wr.setCell ⟨w2.heap.size, q, none⟩ (.bool true)).rowIs r 4 (ps.length + 1) (fun j => .bool (GG j)) ∧ (wr.setCell ⟨w2.heap.size, q, none⟩ (.bool true)).rowIs w2.heap.size 4 (ps.length + 1) (fun j => .bool (nq ps GG C k_1 j)) ∧ Below w.heap.size w (wr.setCell ⟨w2.heap.size, q, none⟩ (.bool true)) ∧ (wr.setCell ⟨w2.heap.size, q, none⟩ (.bool true)).heap.size = w3.heap.size := fun q h =>
                  ⟨k + 1, by omega, by rw [Int.natCast_add]; rfl, hrA.of_block (Below.heap_setCell wr _ _ r hne), (hrB.set q (.bool true)).congr (fun j _ => by rw [h j]; by_cases hj : j = q <;> simp [hj]), hbi.setCell (p := ⟨w2.heap.size, q, none⟩) hs2 _, by rw [← hsi]; simp [World.setCell]⟩
                have SAME : Hid _ := same
                have SETK : Hid _ := setk
                have HPK : Hid _ := hpk
                clear same setk hrA hrB hRi hbi hsi
                cases hgk : GG k with
                | false =>
                  rw [hgk] at ca
                  have HGK : Hid _ := hgk
                  clear hgk hpk
                  go_wp2
                  go_roundw
                  case rel => exact SAME.out (nq_same (by rw [HGK.out]; rfl) (by rw [HGK.out]; rfl))
                  case measure => simp [intOf]; omega
                | true =>
                  rw [hgk] at ca
                  have HGK : Hid _ := hgk
                  clear hgk
                  cases p with
                  | any =>
                    simp only [P.kind, signT] at ck cs
                    clear hpk
                    go_wp2
                    go_roundw
                    case rel => exact SETK.out k (nq_here (by rw [HGK.out, HPK.out]; rfl) (by rw [HGK.out, HPK.out]; rfl))
                    case measure => simp [intOf]; omega
                  | one =>
                    simp only [P.kind, signT] at ck cs
                    clear hpk
                    go_wp2
                    go_roundw
                    case rel => exact SETK.out (k + 1) (nq_next (by rw [HGK.out, HPK.out]; rfl) (by rw [HGK.out, HPK.out]; rfl))
                    case measure => simp [intOf]; omega
                  | fix q =>
                    simp only [P.kind, signT] at ck cs
                    have hkq := HOK.out q (List.mem_of_getElem? hpk)
                    have hse := sign_eq hkq HKC.out
                    clear hpk
                    by_cases hqc : q = C
                    · have hse' : ((Gl.T (Lib.encodeRune (q : Int))).toList == (Gl.T (Lib.encodeRune (C : Int))).toList) = true := by rw [hse]; exact decide_eq_true hqc
                      have HQC : Hid _ := hqc
                      clear hse hkq hqc
                      generalize Gl.T (Lib.encodeRune (q : Int)) = S1 at *
                      generalize Gl.T (Lib.encodeRune (C : Int)) = S2 at *
                      go_wp2
                      go_roundw
                      case rel => exact SETK.out (k + 1) (nq_next (by rw [HGK.out, HPK.out]; rfl) (by rw [HGK.out, HPK.out, HQC.out]; simp))
                      case measure => simp [intOf]; omega
                    · have hse' : ((Gl.T (Lib.encodeRune (q : Int))).toList == (Gl.T (Lib.encodeRune (C : Int))).toList) = false := by rw [hse]; exact decide_eq_false hqc
                      have HQC : Hid _ := hqc
                      clear hse hkq hqc
                      generalize Gl.T (Lib.encodeRune (q : Int)) = S1 at *
                      generalize Gl.T (Lib.encodeRune (C : Int)) = S2 at *
                      go_wp2
                      go_roundw
                      case rel => exact SAME.out (nq_same (by rw [HGK.out, HPK.out]; rfl) (by rw [HGK.out, HPK.out]; simp; exact HQC.out))
                      case measure => simp [intOf]; omega
              · have e6 : ¬ (k : Int) < (ps.length : Int) := by omega
                have hkL : k = ps.length := by omega
                have hrB' : wr.rowIs w2.heap.size 4 (ps.length + 1) (fun j => .bool (nx ps GG C j)) := hrB.congr (fun j hj => by rw [hkL, nq_full _ _ _ j (by omega)])
                have HRB : Hid _ := hrB'
                have hfu2 : F.size + 1 ≤ Sg.posn F (n + 1) + fu := by rw [HSP2.out]; have := HFUEL.out; omega
                have HFU : Hid _ := hfu2
                clear hfu2
                clear hrA hrB hrB' hkL
                go_wp2
                go_roundw
                case rel => exact ⟨n + 1, fu, w2.heap.size, nx ps GG C, rfl, by rw [HSP2.out, Int.natCast_add], by omega, by omega, HRB.out, hbi, by rw [HSP2.out]; exact Hacc.out, HFU.out⟩
                case measure => simp [intOf]; omega
      | false =>
        rw [if_neg (by simp)] at hacc
        by_cases hend : Sg.posn F n = F.size
        · rw [if_pos hend] at hacc
          have Hacc : Hid _ := hacc
          have q1 : ((Sg.posn F n : Int) == (F.size : Int)) = true := beq_iff_eq.2 (by omega)
          clear hacc hend
          go_wp2_with (first
            | (go_at_call 46; refine hst2.mono ?_; clear hst2; rintro e2 w2 ⟨rfl, hb2', hr2l, hrow2, cl2, ct2⟩)
            | fail)
          go_ret
          exact ⟨Sg.ret_bool Hacc.out, hb2'⟩
        · rw [if_neg hend] at hacc
          have hp : Sg.posn F n < F.size := by omega
          have q1 : ((Sg.posn F n : Int) == (F.size : Int)) = false := by rw [beq_eq_false_iff_ne]; omega
          have hsg := fun W => Tryd.refSign_any F (Sg.posn F n) hp (by omega) W
          obtain ⟨hpc, hkc⟩ := HPC.out n hp
          have hsp := Sg.posn_step F n hp
          have hnle := Sg.posn_le F (n + 1)
          have hwd := Sg.wd_pos F (Sg.posn F n)
          have HSP : Hid _ := hsp
          have HKC : Hid _ := hkc
          unfold Sg.wd at hpc hsp hwd
          have hin : Sg.posn F n + (Utf8.decode F (Sg.posn F n)).2 ≤ F.size := by rw [← hsp]; exact hnle
          have hsp' := hsp
          have HSP2 : Hid (Sg.posn F (n + 1) = Sg.posn F n + (Utf8.decode F (Sg.posn F n)).2) := hsp'
          clear hsp hsp' hnle hend HPC HSP
          generalize hC : (Utf8.decode F (Sg.posn F n)).1 = C at *
          generalize hK : (Utf8.decode F (Sg.posn F n)).2 = K at *
          have Hacc : Hid _ := hacc
          clear hacc hC hK
          have e5 : (Sg.posn F n : Int) + (K : Int) ≤ (F.size : Int) := by omega
          have hst3 := hst2.mono (R' := fun e W => (e = .returned (.tuple #[]) ∧ Below w.heap.size w W ∧ r < W.heap.size ∧ W.rowIs r 4 (ps.length + 1) (fun i => .bool (GG i)) ∧ W.cell? ⟨r, ps.length, none⟩ = some (.bool (GG ps.length)) ∧ W.cell? ⟨b2, Sg.posn F n, none⟩ = some (.bool (till (Sg.posn F n)))) ∧ ∃ w3, (Instr.makeSlice 68 (.int .i64 ((ps.length : Int) + 1)) (.int .i64 ((ps.length : Int) + 1))).run Tryd.prog W = .ok (.slice (some ⟨W.heap.size, 0, none⟩) (ps.length + 1) (ps.length + 1)) w3 ∧ Below W.heap.size W w3 ∧ w3.heap.size = W.heap.size + 1 ∧ w3.rowIs W.heap.size 4 (ps.length + 1) (fun _ => .bool false)) (by
            rintro e W h
            rw [hGL, hTL]
            exact ⟨h, Tryd.makeB ps.length (by omega) W⟩)
          rw [hGL, hTL] at hst3
          clear hst2 hGL hTL
          go_wp2_with (first
            | (go_at_call 46; refine hst3.mono ?_; clear hst3; rintro e2 w2 ⟨⟨rfl, hb2', hr2l, hrow2, cl2, ct2⟩, w3, hmk3, hb3, hs3, hrow3⟩)
            | (go_at_call 38; refine (hsg _).mono ?_; clear hsg; rintro e3 w4 ⟨rfl, hw4⟩; obtain rfl := hw4.symm)
            | fail)
          have hrow23 := hrow2.of_block (hb3.block r hr2l)
          have hbw3 : Below w.heap.size w w3 := hb2'.trans (hb3.mono hb2'.size)
          have hs2 := hb2'.size
          clear hmk3 hrow2 cl2 ct2 cf cz fz hbw hrl
          go_loopw [17] (fun i wi => ∃ k : Nat, k ≤ ps.length ∧ i = .int .i64 k ∧ wi.rowIs r 4 (ps.length + 1) (fun j => .bool (GG j)) ∧ wi.rowIs w2.heap.size 4 (ps.length + 1) (fun j => .bool (nq ps GG C k j)) ∧ Below w.heap.size w wi ∧ wi.heap.size = w3.heap.size) (fun i _ => ps.length - (intOf i).toNat)
          case atStart => exact ⟨0, by omega, rfl, hrow23, hrow3.congr (fun j _ => by rw [nq_zero]), hbw3, rfl⟩
          case round =>
            obtain ⟨k, hk, rfl, hrA, hrB, hbi, hsi⟩ := hrel
            have hRi := HR.out.keep hbi (Nat.le_refl _)
            have d1 := hRi.cell
            by_cases hlt : k < ps.length
            · obtain ⟨p, hpk⟩ : ∃ p, ps[k]? = some p := ⟨_, List.getElem?_eq_getElem hlt⟩
              obtain ⟨g, rfl, hgB, ck, cs⟩ := hRi.at hpk
              have ca := hrA.cell (i := k) (by omega)
              have cb0 := hrB.cell (i := k) (by omega)
              have fb0 := hrB.frozen k
              have cb1 := hrB.cell (i := k + 1) (by omega)
              have fb1 := hrB.frozen (k + 1)
              have e6 : (k : Int) < (ps.length : Int) := by omega
              have e7 : (k : Int) < (ps.length : Int) + 1 := by omega
              have e8 : (k : Int) + 1 < (ps.length : Int) + 1 := by omega
              have hne : r ≠ w2.heap.size := by omega
              have same : (∀ j, nq ps GG C (k + 1) j = nq ps GG C k j) → ∃ k_1 : Nat, k_1 ≤ ps.length ∧ Value.int .i64 ((k : Int) + 1) = .int .i64 k_1 ∧ wr.rowIs r 4 (ps.length + 1) (fun j => .bool (GG j)) ∧ wr.rowIs w2.heap.size 4 (ps.length + 1) (fun j => .bool (nq ps GG C k_1 j)) ∧ Below w.heap.size w wr ∧ wr.heap.size = w3.heap.size := fun h =>
                ⟨k + 1, by omega, by rw [Int.natCast_add]; rfl, hrA, hrB.congr (fun j _ => by rw [h j]), hbi, hsi⟩
              have setk : ∀ q, (∀ j, nq ps GG C (k + 1) j = if j = q then true else nq ps GG C k j) → ∃ k_1 : Nat, k_1 ≤ ps.length ∧ Value.int .i64 ((k : Int) + 1) = .int .i64 k_1 ∧ (wr.setCell ⟨w2.heap.size, q, none⟩ (.bool true)).rowIs r 4 (ps.length + 1) (fun j => .bool (GG j)) ∧ (wr.setCell ⟨w2.heap.size, q, none⟩ (.bool true)).rowIs w2.heap.size 4 (ps.length + 1) (fun j => .bool (nq ps GG C k_1 j)) ∧ Below w.heap.size w (wr.setCell ⟨w2.heap.size, q, none⟩ (.bool true)) ∧ (wr.setCell ⟨w2.heap.size, q, none⟩ (.bool true)).heap.size = w3.heap.size := fun q h =>
                ⟨k + 1, by omega, by rw [Int.natCast_add]; rfl, hrA.of_block (Below.heap_setCell wr _ _ r hne), (hrB.set q (.bool true)).congr (fun j _ => by rw [h j]; by_cases hj : j = q <;> simp [hj]), hbi.setCell (p := ⟨w2.heap.size, q, none⟩) hs2 _, by rw [← hsi]; simp [World.setCell]⟩
              have SAME : Hid _ := same
              have SETK : Hid _ := setk
              have HPK : Hid _ := hpk
              clear same setk hrA hrB hRi hbi hsi
              cases hgk : GG k with
              | false =>
                rw [hgk] at ca
                have HGK : Hid _ := hgk
                clear hgk hpk
                go_wp2
                go_roundw
                case rel => exact SAME.out (nq_same (by rw [HGK.out]; rfl) (by rw [HGK.out]; rfl))
                case measure => simp [intOf]; omega
              | true =>
                rw [hgk] at ca
                have HGK : Hid _ := hgk
                clear hgk
                cases p with
                | any =>
                  simp only [P.kind, signT] at ck cs
                  clear hpk
                  go_wp2
                  go_roundw
                  case rel => exact SETK.out k (nq_here (by rw [HGK.out, HPK.out]; rfl) (by rw [HGK.out, HPK.out]; rfl))
                  case measure => simp [intOf]; omega
                | one =>
                  simp only [P.kind, signT] at ck cs
                  clear hpk
                  go_wp2
                  go_roundw
                  case rel => exact SETK.out (k + 1) (nq_next (by rw [HGK.out, HPK.out]; rfl) (by rw [HGK.out, HPK.out]; rfl))
                  case measure => simp [intOf]; omega
                | fix q =>
                  simp only [P.kind, signT] at ck cs
                  have hkq := HOK.out q (List.mem_of_getElem? hpk)
                  have hse := sign_eq hkq HKC.out
                  clear hpk
                  by_cases hqc : q = C
                  · have hse' : ((Gl.T (Lib.encodeRune (q : Int))).toList == (Gl.T (Lib.encodeRune (C : Int))).toList) = true := by rw [hse]; exact decide_eq_true hqc
                    have HQC : Hid _ := hqc
                    clear hse hkq hqc
                    generalize Gl.T (Lib.encodeRune (q : Int)) = S1 at *
                    generalize Gl.T (Lib.encodeRune (C : Int)) = S2 at *
                    go_wp2
                    go_roundw
                    case rel => exact SETK.out (k + 1) (nq_next (by rw [HGK.out, HPK.out]; rfl) (by rw [HGK.out, HPK.out, HQC.out]; simp))
                    case measure => simp [intOf]; omega
                  · have hse' : ((Gl.T (Lib.encodeRune (q : Int))).toList == (Gl.T (Lib.encodeRune (C : Int))).toList) = false := by rw [hse]; exact decide_eq_false hqc
                    have HQC : Hid _ := hqc
                    clear hse hkq hqc
                    generalize Gl.T (Lib.encodeRune (q : Int)) = S1 at *
                    generalize Gl.T (Lib.encodeRune (C : Int)) = S2 at *
                    go_wp2
                    go_roundw
                    case rel => exact SAME.out (nq_same (by rw [HGK.out, HPK.out]; rfl) (by rw [HGK.out, HPK.out]; simp; exact HQC.out))
                    case measure => simp [intOf]; omega
            · have e6 : ¬ (k : Int) < (ps.length : Int) := by omega
              have hkL : k = ps.length := by omega
              have hrB' : wr.rowIs w2.heap.size 4 (ps.length + 1) (fun j => .bool (nx ps GG C j)) := hrB.congr (fun j hj => by rw [hkL, nq_full _ _ _ j (by omega)])
              have HRB : Hid _ := hrB'
              have hfu2 : F.size + 1 ≤ Sg.posn F (n + 1) + fu := by rw [HSP2.out]; have := HFUEL.out; omega
              have HFU : Hid _ := hfu2
              clear hfu2
              clear hrA hrB hrB' hkL
              go_wp2
              go_roundw
              case rel => exact ⟨n + 1, fu, w2.heap.size, nx ps GG C, rfl, by rw [HSP2.out, Int.natCast_add], by omega, by omega, HRB.out, hbi, by rw [HSP2.out]; exact Hacc.out, HFU.out⟩
              case measure => simp [intOf]; omega
end Go.Proofs
