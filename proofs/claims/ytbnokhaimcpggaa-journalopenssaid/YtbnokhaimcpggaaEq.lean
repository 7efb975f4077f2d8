/-
  Compact.
-/
import Derived.Test.YtbnokhaimcpggaaEp
import Derived.BigRegion
namespace Go.Proofs
open Go.RowKit Go.Dk
theorem Try.JChg.put4 {own : Nat → Prop} {w w' : World} {y x side gen e f : Nat} {s : DS} (h : Try.JChg own w w' y x side gen e f s) (hy : ¬ own y) (hyl : y < w.heap.size) (side' gen' e' : Nat) :
    Try.JChg own w ((((w'.setCell ⟨y, 0, none⟩ (.pointer (some ⟨x, 0, none⟩))).setCell ⟨y, 1, none⟩ (.int .i64 side')).setCell ⟨y, 2, none⟩ (.int .u32 gen')).setCell ⟨y, 3, none⟩ (.int .i64 e')).drew y x side' gen' e' f s := by
  obtain ⟨own', h1, h2⟩ := h.ex
  have hb : ∀ k, k ≠ y → ((((w'.setCell ⟨y, 0, none⟩ (.pointer (some ⟨x, 0, none⟩))).setCell ⟨y, 1, none⟩ (.int .i64 side')).setCell ⟨y, 2, none⟩ (.int .u32 gen')).setCell ⟨y, 3, none⟩ (.int .i64 e')).heap[k]? = w'.heap[k]? := fun k hk =>
    (Below.heap_setCell _ ⟨y, 3, none⟩ _ k hk).trans ((Below.heap_setCell _ ⟨y, 2, none⟩ _ k hk).trans ((Below.heap_setCell _ ⟨y, 1, none⟩ _ k hk).trans (Below.heap_setCell _ ⟨y, 0, none⟩ _ k hk)))
  have hny : ∀ k, own' k → k ≠ y := fun k hk e => by
    subst e
    rcases h2 k hk with h3 | h3
    · exact hy h3
    · omega
  refine ⟨⟨own', h1.keep (fun k hk => hb k (hny k hk)) (by simp), h2⟩, ?_, ((((h.wo.setCell y 0 _ (.inl (.inr rfl))).setCell y 1 _ (.inl (.inr rfl))).setCell y 2 _ (.inl (.inr rfl))).setCell y 3 _ (.inl (.inr rfl))).drew⟩
  exact heap_setCell_same _ y 3 _ _ (.int .i64 e') (heap_setCell_same _ y 2 _ _ (.int .u32 gen') (heap_setCell_same _ y 1 _ _ (.int .i64 side') (heap_setCell_same w' y 0 _ _ (.pointer (some ⟨x, 0, none⟩)) h.jn)))
/-- The head of a new snapshot. -/
def Dk.nextH (side gen : Nat) (b : List UInt8) : Hd := ⟨1 - side, gen + 1, b.length, fnv b⟩
set_option maxRecDepth 20000 in
set_option maxHeartbeats 2000000 in
/-- Compact that refuses. -/
theorem Try.compact_no {w : World} {own : Nat → Prop} {y x side gen e f : Nat} {s : DS} (h : Try.Dsk w own x s) (hn : 2 ≤ s.n) (hj : Try.Jn w y x side gen e f) (hg : gen < 4294967296) (ad : Option Addr) (L cap : Nat) (_hL : L < 1000000000000000) (c : Int)
    (hcs : (s.falls ≠ f ∧ c = 41) ∨ (s.falls = f ∧ 64 * half s.n < L ∧ c = 51) ∨ (s.falls = f ∧ L ≤ 64 * half s.n ∧ gen = 999999999 ∧ c = 51)) :
    Calls Try.prog 48 #[.pointer (some ⟨y, 0, none⟩), .slice ad L cap] w fun r w' => r = .returned (.int .i64 c) ∧ Below w.heap.size w w' := by
  have hhl := Dk.half_le h.len.2.2
  have hbr0 := Try.broken_any h hj
  have hsz : ∀ W, Below w.heap.size w W → Calls Try.prog 52 #[.agg #[.pointer (some ⟨x, 0, none⟩), .int .i64 side]] W _ := fun W hW => Try.asize_any (h.below hW) hn side
  have hjc := fun W (hW : Below w.heap.size w W) => (hj.below hW).c
  clear h hj
  generalize hS : 64 * half s.n = S at *
  clear hS
  rcases hcs with ⟨hf, rfl⟩ | ⟨hf, hl, rfl⟩ | ⟨hf, hl, rfl, rfl⟩
  · rw [show decide (s.falls = f) = false by simpa using hf] at hbr0
    go_enter Try.func48, Try.ntmps48
    go_wp2_with (go_at_call 54; refine hbr0.mono ?_; clear hbr0; rintro r w2 ⟨rfl, h2⟩)
    go_ret
    exact ⟨rfl, h2⟩
  · rw [show decide (s.falls = f) = true by simpa using hf] at hbr0
    have q1 : (S : Int) < (L : Int) := by omega
    go_enter Try.func48, Try.ntmps48
    go_wp2_with (first
      | (go_at_call 54; refine hbr0.mono ?_; clear hbr0; rintro r w2 ⟨rfl, h2⟩; obtain ⟨c0, c1, c2, c3, c4⟩ := hjc _ h2; have hsz2 := hsz _ h2)
      | (go_at_call 52; refine hsz2.mono ?_; clear hsz2; rintro r w3 ⟨rfl, h3⟩)
      | fail)
    go_ret
    exact ⟨rfl, h2.trans (h3.mono h2.size)⟩
  · rw [show decide (s.falls = f) = true by simpa using hf] at hbr0
    have q1 : ¬ (S : Int) < (L : Int) := by omega
    go_enter Try.func48, Try.ntmps48
    go_wp2_with (first
      | (go_at_call 54; refine hbr0.mono ?_; clear hbr0; rintro r w2 ⟨rfl, h2⟩; obtain ⟨c0, c1, c2, c3, c4⟩ := hjc _ h2; have hsz2 := hsz _ h2)
      | (go_at_call 52; refine hsz2.mono ?_; clear hsz2; rintro r w3 ⟨rfl, h3⟩; obtain ⟨d0, d1, d2, d3, d4⟩ := hjc _ (h2.trans (h3.mono h2.size)))
      | fail)
    go_ret
    exact ⟨rfl, h2.trans (h3.mono h2.size)⟩
theorem Try.zero_box {w : World} {b : Nat} (h : w.heap[b]? = some (.cells #[.pointer none, .int .i64 0] 98 (0, 0))) : w.cell? ⟨b, 0, none⟩ = some (.pointer none) ∧ w.cell? ⟨b, 1, none⟩ = some (.int .i64 0) ∧ w.frozen? ⟨b, 0, none⟩ = false ∧ w.frozen? ⟨b, 1, none⟩ = false :=
  ⟨by rw [cell_of_row _ _ _ _ _ _ h]; rfl, by rw [cell_of_row _ _ _ _ _ _ h]; rfl, frozen_of_row _ _ _ _ _ h, frozen_of_row _ _ _ _ _ h⟩
set_option maxRecDepth 20000 in
set_option maxHeartbeats 2000000 in
theorem Try.compact_ok {w : World} {own : Nat → Prop} {y x side gen e f : Nat} {s : DS} (h : Try.Dsk w own x s) {q : Nat} (hc : s.Can (q + 3000)) (hn : 8 ≤ s.n) (hs : side ≤ 1) (hg : gen < 999999999) (hj : Try.Jn w y x side gen e f) (hy : ¬ own y) (hf : s.falls = f)
    (v : Value) (b : List UInt8) (hv : Dk.Src w v b) (hbS : b.length ≤ 64 * half s.n) (hfs : s.fset = false) :
    Calls Try.prog 48 #[.pointer (some ⟨y, 0, none⟩), v] w fun r w' => r = .returned (.int .i64 0) ∧ Try.JChg own w w' y x (1 - side) (gen + 1) b.length f (s.compact (Dk.nextH side gen b) b).1 := by
  have hln := h.len
  have hhl := Dk.half_le hln.2.2
  have hbr0 := Try.broken_any h hj
  rw [show decide (s.falls = f) = true by simpa using hf] at hbr0
  have hsz : ∀ W, Below w.heap.size w W → Calls Try.prog 52 #[.agg #[.pointer (some ⟨x, 0, none⟩), .int .i64 side]] W _ := fun W hW => Try.asize_any (h.below hW) (by omega) side
  have hjc := fun W (hW : Below w.heap.size w W) => (hj.below hW).c
  have hot : ∀ W, Calls Try.prog 73 #[.agg #[.pointer (some ⟨x, 0, none⟩), .int .i64 side]] W _ := fun W => Try.other_any W x side hs
  unfold Dk.arV at hot
  have hsu : ∀ W, Below w.heap.size w W → Calls Try.prog 74 #[v] W _ := fun W hW => Try.sum_any (hv.below hW) (by omega)
  obtain ⟨H, hH⟩ : ∃ H, H = Dk.nextH side gen b := ⟨_, rfl⟩
  have hfn := fnv_lt b
  obtain ⟨r1, hr1⟩ : ∃ r1, r1 = s.into (1 - side) 0 b := ⟨_, rfl⟩
  obtain ⟨r2, hr2⟩ : ∃ r2, r2 = r1.1.op .sy := ⟨_, rfl⟩
  obtain ⟨r3, hr3⟩ : ∃ r3, r3 = r2.1.layH H := ⟨_, rfl⟩
  have e1 : r1.2 = true ∧ r1.1.fset = false := by rw [hr1]; exact run_free _ _ hfs
  have e2 : r2.2 = true ∧ r2.1.fset = false := by rw [hr2]; exact op_free _ _ e1.2
  have hR : (s.compact H b).1 = r3.1 := by
    have e : H.side = 1 - side := by rw [hH]; rfl
    unfold DS.compact; simp only [andThen, e, ← hr1, e1.1, if_true, ← hr2, e2.1, ← hr3]
  have hsp := span_le (n := s.n) (p := 0) (e := 0 + b.length) hln.2.2
  have k1 : r1.1.Can (q + 12) := by
    have := e1.1
    rw [hr1] at this ⊢
    exact run_can _ _ (hc.mono (by rw [chunks_len]; omega)) this
  have k2 : r2.1.Can (q + 11) := by have := e2.1; rw [hr2] at this ⊢; exact (k1.op _ (DS.op_ok this)).2
  have n1 : r1.1.n = s.n := by rw [hr1]; exact run_n _ _
  have n2 : r2.1.n = s.n := by rw [hr2, DS.op_n, n1]
  have hwr : ∀ B, Below w.heap.size w B → Calls Try.prog 55 #[.agg #[.pointer (some ⟨x, 0, none⟩), .int .i64 (1 - side : Nat)], .int .i64 0, v] B fun r w' => r = .returned (.bool true) ∧ Try.Chg own B w' x r1.1 := fun B hB => by
    have := Try.awrite_any (h.below hB) (q := q) (by omega) (1 - side) (by omega) 0 (by unfold half; omega) b (by omega) (hc.mono (by omega)) v (hv.below hB)
    rw [← hr1, e1.1] at this
    exact this
  have hsy : ∀ B W, Try.Chg own B W x r1.1 → Calls Try.prog 50 #[.pointer (some ⟨x, 0, none⟩)] W fun r w' => r = .returned (.bool true) ∧ Try.Chg own B w' x r2.1 := fun B W hW => by
    obtain ⟨own1, a1, a2⟩ := hW.ex
    have := Try.synced_any a1 (m := q + 11) k1
    rw [← hr2, e2.1] at this
    exact this.mono fun r w' ⟨k1, k2⟩ => ⟨k1, Try.Chg.trans hW.wo a2 k2⟩
  have hla : ∀ B W, Try.Chg own B W x r2.1 → Calls Try.prog 75 #[Dk.hdV H, .pointer (some ⟨x, 0, none⟩)] W fun r w' => r = .returned (.bool true) ∧ Try.Chg own B w' x r3.1 := fun B W hW => by
    obtain ⟨own1, a1, a2⟩ := hW.ex
    have hH1 : H.side = 1 - side ∧ H.gen = gen + 1 ∧ H.size = b.length ∧ H.sum = fnv b := by rw [hH]; exact ⟨rfl, rfl, rfl, rfl⟩
    have := Try.lay_ok a1 (q := q + 1) k2 (by omega) H (by omega) (by omega) (by omega) (by omega) e2.2
    rw [← hr3] at this
    exact this.mono fun r w' ⟨k1, k2⟩ => ⟨k1, Try.Chg.trans hW.wo a2 k2⟩
  have hV : Dk.hdV H = .agg #[.int .i64 (1 - side : Nat), .int .u32 ((gen : Int) + 1), .int .u32 b.length, .int .u32 (fnv b)] := by rw [hH]; rfl
  rw [hV] at hla
  rw [← hH, hR]
  clear hr1 hr2 hr3 e1 e2 hR k1 k2 n1 n2 hc hH hV hfs
  generalize r3.1 = s3 at *
  generalize r2.1 = s2 at *
  generalize r1.1 = s1 at *
  obtain ⟨ad, cap, rfl, -⟩ := hv
  have hSl : 64 * half s.n ≤ 131008 := by omega
  generalize hS : 64 * half s.n = S at *
  generalize hL : b.length = L at *
  generalize fnv b = F at *
  have HJ : Hid (Try.Jn w y x side gen e f) := hj
  have hlt := h.lt
  have hyl := Dk.block_lt hj
  clear hj hf h hS
  have q1 : decide ((S : Int) < (L : Int)) = false := by simp; omega
  have q1n : decide (S < L) = false := by simp; omega
  have q2 : ((gen : Int) == 999999999) = false := by simp; omega
  go_enter Try.func48, Try.ntmps48
  go_wp2_with (first
    | (go_at_call 54; refine hbr0.mono ?_; clear hbr0; rintro r w2 ⟨rfl, h2⟩; obtain ⟨c0, c1, c2, c3, c4⟩ := hjc _ h2; have hsz2 := hsz _ h2)
    | (go_at_call 52; refine hsz2.mono ?_; clear hsz2; rintro r w3 ⟨rfl, h3⟩; have hb3 := h2.trans (h3.mono h2.size); obtain ⟨d0, d1, d2, d3, d4⟩ := hjc _ hb3)
    | fail)
  clear c0 c1 c2 c3 c4 hsz
  try simp only [q1n]
  go_cut [5, 6] (fun p bx wx => p = .pointer (some ⟨x, 0, none⟩) ∧ ∃ B, bx = .pointer (some ⟨B, 0, none⟩) ∧ Try.Box wx B x (1 - side) ∧ w.heap.size ≤ B ∧ Below w.heap.size w wx)
  case first =>
    have hb33 := Below.refl w3.heap.size w3
    have hyn : y ≠ w3.heap.size := by have := hb3.size; omega
    have hyn2 : w3.heap.size ≠ y := fun e => hyn e.symm
    go_region_held3 (fun W => W.cell? ⟨y, 0, none⟩ = some (.pointer (some ⟨x, 0, none⟩)) ∧ W.cell? ⟨y, 1, none⟩ = some (.int .i64 side)) (first | exact ⟨d0, d1⟩ | exact ⟨f0, f1⟩ | exact ⟨Dk.cellB (hb33.drew.alloc (Nat.le_refl _) _) (Nat.lt_of_lt_of_le hyl hb3.size) d0, Dk.cellB (hb33.drew.alloc (Nat.le_refl _) _) (Nat.lt_of_lt_of_le hyl hb3.size) d1⟩ | go_keep) (first
      | (go_at_call 73; refine (hot _).mono ?_; rintro r w4 ⟨rfl, h4⟩; have hb4 : Below w3.heap.size w3 w4 := (by first | exact hb33.drew.trans h4 | exact (hb33.drew.alloc (Nat.le_refl _) _).trans (h4.mono (by simp))); have f0 := Dk.cellB hb4 (Nat.lt_of_lt_of_le hyl hb3.size) d0; have f1 := Dk.cellB hb4 (Nat.lt_of_lt_of_le hyl hb3.size) d1; try (have f6 : w4.heap[w3.heap.size]? = some (.cells #[.pointer none, .int .i64 0] 98 (0, 0)) := (h4.block _ (by simp)).trans (heap_alloc_new w3.drew _); obtain ⟨k0, k1, k2, k3⟩ := Try.zero_box f6)))
    all_goals
      go_wp2
      go_meet
      case rel =>
        refine ⟨rfl, _, rfl, ?_, ?_, ?_⟩
        · first
          | exact heap_alloc_new w4 _
          | exact heap_setCell_same _ _ 1 _ _ _ (heap_setCell_same _ _ 0 _ _ _ f6)
        · have := hb3.size; have := hb4.size; simp; omega
        · first
          | exact (hb3.trans (hb4.mono hb3.size)).alloc (by have := hb3.size; have := hb4.size; omega) _
          | exact ((hb3.trans (hb4.mono hb3.size)).setCell hb3.size _).setCell hb3.size _
  case rest =>
    obtain ⟨rfl, B, rfl, hbx, hB, hbc⟩ := hcut
    clear hot d0 d1 d2 d3 d4 hb3 h2 h3
    obtain ⟨c0, c1, c2, c3, c4⟩ := hjc _ hbc
    have x1 := hbx.c1
    have qg : ((gen : Int) + 1) % 4294967296 = (gen : Int) + 1 := by omega
    have qL : (L : Int) % 4294967296 = L := by omega
    have hBl := Dk.block_lt hbx
    have hyc : y < wc.heap.size := Nat.lt_of_lt_of_le hyl hbc.size
    go_wp2
    go_cut [7] (fun p wx => ∃ G, p = .pointer (some ⟨G, 0, none⟩) ∧ wx.heap[G]? = some (.cells #[.int .i64 (1 - side : Nat), .int .u32 ((gen : Int) + 1), .int .u32 L, .int .u32 F] 91 (0, 0)) ∧ w.heap.size ≤ G ∧ Try.Box wx B x (1 - side) ∧ Below w.heap.size w wx)
    case first =>
      have hcc := Below.refl wc.heap.size wc
      have hyn : y ≠ wc.heap.size := by omega
      have hyn2 : wc.heap.size ≠ y := by omega
      have hBn : B ≠ wc.heap.size := by omega
      have hBn2 : wc.heap.size ≠ B := by omega
      go_region_held3 (fun W => W.cell? ⟨y, 2, none⟩ = some (.int .u32 gen) ∧ W.cell? ⟨B, 1, none⟩ = some (.int .i64 (1 - side : Nat))) (first | exact ⟨c2, x1⟩ | go_keep) (first
        | (go_at_call 74; refine (hsu _ (by first | exact hbc.drew | exact hbc.drew.alloc hbc.size _)).mono ?_; rintro r w4 ⟨rfl, rfl⟩))
      all_goals
        go_wp2
        go_meet
        case rel =>
          have u1 : IntKind.u32.wrap ((gen : Int) + 1) = (gen : Int) + 1 := by rw [IntKind.wrap_u32]; omega
          have u2 : IntKind.u32.wrap (L : Int) = (L : Int) := by rw [IntKind.wrap_u32]; omega
          rw [u1, u2]
          exact ⟨wc.heap.size, rfl, heap_alloc_new wc _, hbc.size, hbx.below (Dk.belowA wc _).drew, (hbc.trans ((Dk.belowA wc _).mono hbc.size)).drew⟩
    case rest =>
      obtain ⟨G, rfl, hGh, hGw, hbx6, hb6⟩ := hcut
      clear c0 c1 c2 c3 c4 x1 qg qL hbx hbc hBl hyc hsu
      have hnb : ∀ k, w.heap.size ≤ k → ¬ own k := fun k hk e => by have := hlt k e; omega
      have hkG : ∀ W', Dk.Wo own wc W' → W'.heap[G]? = some (.cells #[.int .i64 (1 - side : Nat), .int .u32 ((gen : Int) + 1), .int .u32 L, .int .u32 F] 91 (0, 0)) := fun W' hW' => (hW'.block _ (Dk.block_lt hGh) (hnb _ hGw)).trans hGh
      have hkB : ∀ W', Dk.Wo own wc W' → Try.Box W' B x (1 - side) := fun W' hW' => hbx6.wo hW' (hnb _ hB)
      have hkY : ∀ W', Dk.Wo own wc W' → Try.Jn W' y x side gen e f := fun W' hW' => (HJ.out.below hb6).wo hW' hy
      have hwr := hwr _ hb6
      have hsy := hsy wc
      have hla := hla wc
      have x0 := hbx6.c0
      have x1 := hbx6.c1
      go_wp2_with (first
        | (go_at_call 55; refine hwr.mono ?_; clear hwr; rintro r w7 ⟨rfl, h7⟩)
        | (go_at_call 50; refine (hsy _ h7).mono ?_; clear hsy; rintro r w8 ⟨rfl, h8⟩; have g0 : w8.cell? ⟨G, 0, none⟩ = some (.int .i64 (1 - side : Nat)) := (by rw [cell_of_row _ _ _ _ _ _ (hkG _ h8.wo)]; rfl); have g1 : w8.cell? ⟨G, 1, none⟩ = some (.int .u32 ((gen : Int) + 1)) := (by rw [cell_of_row _ _ _ _ _ _ (hkG _ h8.wo)]; rfl); have g2 : w8.cell? ⟨G, 2, none⟩ = some (.int .u32 L) := (by rw [cell_of_row _ _ _ _ _ _ (hkG _ h8.wo)]; rfl); have g3 : w8.cell? ⟨G, 3, none⟩ = some (.int .u32 F) := (by rw [cell_of_row _ _ _ _ _ _ (hkG _ h8.wo)]; rfl))
        | (go_at_call 75; refine (hla _ h8).mono ?_; clear hla; rintro r w9 ⟨rfl, h9⟩)
        | fail)
      have hB9 := hkB _ h9.wo
      have hG9 := hkG _ h9.wo
      have hY9 := hkY _ h9.wo
      have b0 := hB9.c0
      have b1 := hB9.c1
      have g91 : w9.cell? ⟨G, 1, none⟩ = some (.int .u32 ((gen : Int) + 1)) := by rw [cell_of_row _ _ _ _ _ _ hG9]; rfl
      obtain ⟨c0, c1, c2, c3, c4⟩ := hY9.c
      have fr0 := hY9.fr 0
      have fr1 := hY9.fr 1
      have fr2 := hY9.fr 2
      have fr3 := hY9.fr 3
      have yB : y ≠ B := by omega
      have yG : y ≠ G := by omega
      have By : B ≠ y := by omega
      have Gy : G ≠ y := by omega
      have HY9 : Hid (Try.Jn w9 y x side gen e f) := hY9
      have HC9 : Hid (Try.Chg own w w9 x s3) := Try.Chg.pre hb6 h9
      clear hkB hkG hkY hB9 hG9 hY9 g0 g1 g2 g3 x0 x1 hGh hbx6 h7 h8 h9 hnb
      go_region
      have hfin := (Try.JChg.of HC9.out HJ.out hy).put4 hy hyl (1 - side) (gen + 1) L
      rw [show (((gen + 1 : Nat) : Nat) : Int) = (gen : Int) + 1 by omega] at hfin
      generalize ((((w9.setCell ⟨y, 0, none⟩ (.pointer (some ⟨x, 0, none⟩))).setCell ⟨y, 1, none⟩ (.int .i64 (1 - side : Nat))).setCell ⟨y, 2, none⟩ (.int .u32 ((gen : Int) + 1))).setCell ⟨y, 3, none⟩ (.int .i64 L)).drew = W10 at *
      go_wp2
      go_ret
      exact ⟨rfl, hfin⟩
end Go.Proofs
