/-
  Laid together by merge.py of Im Io.
-/
import Derived.Test.YtlfiebapfgpchaaGreatDoorSqIl
namespace Go.Proofs
open Go.RowKit Go.Wi Go.Dg
theorem Dg.Br.at {T : TypeId} {w : World} {g : Nat} {R : List UInt8} (h : Dg.Br T w g R) (i : Nat) : w.cell? ⟨g, i, none⟩ = (Lib.byteCells R)[i]? := by
  rw [cell_of_row _ _ _ _ _ _ h]
  simp
theorem Dg.Br.over {T : TypeId} {w : World} {g : Nat} {R : List UInt8} (h : Dg.Br T w g R) (xs : List UInt8) (hx : xs.length ≤ R.length) : Dg.Br T (w.setCells g 0 (Lib.byteCells xs)) g (xs ++ R.drop xs.length) := by
  have h1 := Dg.sets_block (T := T) (Lib.byteCells xs) 0 w _ h (by rw [byteCells_len, byteCells_len]; omega)
  rw [List.take_zero, List.nil_append, Nat.zero_add, byteCells_len] at h1
  unfold Dg.Br
  rw [h1, byteCells_app]
  congr 3
  simp [Lib.byteCells, List.map_drop]
set_option maxRecDepth 20000 in
theorem Tryz.Br.copy {w : World} {g : Nat} {R : List UInt8} {T : TypeId} (h : Dg.Br T w g R) {ad : Option Addr} {L cap : Nat} {b : List UInt8} (hb : Bs w (.slice ad L cap) b) (d dc : Nat) (hd : d ≤ R.length) (hbd : b.length ≤ d) (ty : TypeId) :
    (Builtin.copy_ #[29, 29] ty #[.slice (some ⟨g, 0, none⟩) d dc, .slice ad L cap]).run Tryz.prog w = .ok (goInt b.length) (w.setCells g 0 (Lib.byteCells b)) := by
  obtain ⟨ad', cap', e, hcap, hnil, hbx⟩ := hb.ex
  injection e with e1 e2 e3
  subst e1 e2 e3
  have hlen : (Lib.byteCells b).length = Nat.min b.length d := by rw [byteCells_len]; exact (Nat.min_eq_left hbd).symm
  rcases hbx with rfl | ⟨gb, ob, rfl, hgb, hce⟩
  · exact run_copy_none (P := Tryz.prog) w 29 29 ty 5 _ ad d dc 0 cap Tryz.underlying29 Dg.inf8 (by show min 0 d = 0; omega)
  · have := run_copy_cells (P := Tryz.prog) w 29 29 ty 5 g 0 d dc ⟨gb, ob, none⟩ b.length cap (Lib.byteCells b) Tryz.underlying29 Dg.inf8 hlen (fun j v hv => by
      rw [Addr.add_mid]
      exact hce j v hv) (fun j hj => by
      rw [byteCells_len] at hj
      rw [h.at, Nat.zero_add, List.getElem?_eq_getElem (by rw [byteCells_len]; omega)]
      rfl) (fun j _ => h.frozen _) (fun v hv => by
      simp only [Lib.byteCells, List.mem_map] at hv
      obtain ⟨x, _, rfl⟩ := hv
      rfl)
    rw [byteCells_len] at this
    exact this
theorem Dg.Br.bs {T : TypeId} {w : World} {g : Nat} {l : List UInt8} (h : Dg.Br T w g l) (n c : Nat) (hn : n ≤ l.length) (hc : n ≤ c) : Bs w (.slice (some ⟨g, 0, none⟩) n c) (l.take n) := by
  have hl : (l.take n).length = n := by rw [List.length_take]; omega
  refine ⟨some ⟨g, 0, none⟩, c, by rw [hl], by rw [hl]; exact hc, (fun e => by cases e), .inr ⟨g, 0, rfl, h.lt, fun j u hu => ?_⟩⟩
  rw [h.at, Nat.zero_add]
  simp only [Lib.byteCells, List.getElem?_map, List.getElem?_take] at hu ⊢
  split at hu
  · exact hu
  · cases hu
theorem Dg.xor_step (K : List UInt8) (i : Nat) (n : UInt8) (h : i < K.length) {hl : i < (withB (K.take i) n ++ K.drop i).length} (x : UInt8) (hx : x = (withB (K.take i) n ++ K.drop i)[i]'hl) : (withB (K.take i) n ++ K.drop i).set i (x ^^^ n) = withB (K.take (i + 1)) n ++ K.drop (i + 1) := by
  have hw : (withB (K.take i) n).length = i := by simp [withB]; omega
  have e0 : x = K[i] := by rw [hx, List.getElem_append_right (by omega), List.getElem_drop]; simp [hw]
  rw [List.set_append_right _ _ (by omega), hw, Nat.sub_self, List.drop_eq_getElem_cons h, List.set_cons_zero, List.take_add_one, List.getElem?_eq_getElem h, e0]
  unfold withB
  rw [List.map_append, List.append_assoc]
  rfl
set_option maxRecDepth 20000 in
set_option maxHeartbeats 1000000 in
theorem Tryz.keyed_any {w : World} {b : List UInt8} {V : Value} (n : UInt8) (hT : Tryz.Tq w) (hb : Bs w V b) (hv : ∀ k, V.ownBlock = some k → k < w.heap.size) (hc : b.length ≤ 64) :
    Calls Tryz.prog 70 #[V, .int .u8 (n.toNat : Int)] w fun e w' => ∃ g s R, e = .returned (.pointer (some ⟨g, 0, none⟩)) ∧ w.heap.size ≤ g ∧ Tryz.Hsh w' g s R 64 ∧ Dg.Sofar s R (withB (b ++ List.replicate (64 - b.length) 0) n) ∧ Below w.heap.size w w' := by
  obtain ⟨ad, cap, rfl, hcap, hnil, hbx⟩ := hb.ex
  have HT : Hid _ := hT
  have HBs : Hid _ := hb
  have HV : Hid _ := hv
  clear hT hb hbx hnil hcap hv
  obtain ⟨L, hL⟩ : ∃ L, L = b.length := ⟨_, rfl⟩
  have HL : Hid (L = b.length) := hL
  rw [← hL] at HBs HV ⊢
  clear hL
  go_enter Tryz.func70, Tryz.ntmps70
  go_upto_region 2 with (fail)
  obtain ⟨wa, hwa⟩ : ∃ wa, wa = w.alloc (.cells (Lib.byteCells (List.replicate 64 0)).toArray 155) := ⟨_, rfl⟩
  have hsa : wa.heap.size = w.heap.size + 1 := by rw [hwa]; simp only [World.size_alloc]
  have HA : Hid (Dg.Br 155 wa w.heap.size (List.replicate 64 0) ∧ Below w.heap.size w wa) := by
    rw [hwa]
    exact ⟨heap_alloc_new w _, (Below.refl _ w).alloc (Nat.le_refl _) _⟩
  have Hew : Hid (w.alloc (.cells (Lib.byteCells (List.replicate 64 0)).toArray 155) = wa) := hwa.symm
  have Hsa : Hid (wa.heap.size = w.heap.size + 1) := hsa
  clear hwa hsa
  have hcp := Tryz.Br.copy HA.out.1 (HBs.out.below HA.out.2 HV.out) 64 64 (by simp) hc
  refine wp_region_lit ?_
  show wpList _ _ _ _ _ (w.alloc (.cells (Lib.byteCells (List.replicate 64 0)).toArray 155))
  rw [Hew.out]
  go_upto_region 3 with (fail)
  obtain ⟨K, hK⟩ : ∃ K : List UInt8, K = b ++ List.replicate (64 - b.length) 0 := ⟨_, rfl⟩
  have hKl : K.length = 64 := by rw [hK, List.length_append, List.length_replicate]; omega
  have HK : Hid (K = b ++ List.replicate (64 - b.length) 0) := hK
  have HB : Hid (Dg.Br 155 (wa.setCells w.heap.size 0 (Lib.byteCells b)) w.heap.size K ∧ Below w.heap.size w (wa.setCells w.heap.size 0 (Lib.byteCells b))) := by
    have h1 := HA.out.1.over b (by simp; omega)
    rw [List.drop_replicate, ← hK] at h1
    exact ⟨h1, below_setCells (Nat.le_refl _) _ _ _ HA.out.2⟩
  clear hcp hK HA
  generalize wa.setCells w.heap.size 0 (Lib.byteCells b) = wb at *
  go_wp2
  go_loopw [11] (fun iv wr => ∃ (i : Nat), iv = .int .i64 i ∧ i ≤ 64 ∧ Hid (Dg.Br 155 wr w.heap.size (withB (K.take i) n ++ K.drop i) ∧ Below w.heap.size w wr)) (fun iv _ => 64 - (intOf iv).toNat)
  case atStart => exact ⟨0, rfl, by omega, HB⟩
  case round =>
    clear HB
    obtain ⟨i, rfl, hi64, HB⟩ := hrel
    by_cases hi : i < 64
    · have q1 : (i : Int) < 64 := by omega
      have q2 : (0 : Int) ≤ (i : Int) := by omega
      have hl : i < (withB (K.take i) n ++ K.drop i).length := by simp [withB]; omega
      have c1 := HB.out.1.cell hl
      have c2 := HB.out.1.frozen i
      obtain ⟨x, hx⟩ : ∃ x, x = (withB (K.take i) n ++ K.drop i)[i]'hl := ⟨_, rfl⟩
      rw [← hx] at c1
      have HX : Hid _ := Dg.xor_step K i n (by omega) x hx
      have e1 := Dg.xor8 x n
      clear hx hl
      go_wp2
      go_roundw
      case rel =>
        refine ⟨i + 1, by go_num, by omega, ?_, HB.out.2.setCell (p := ⟨w.heap.size, i, none⟩) (Nat.le_refl _) _⟩
        have h1 := HB.out.1.set i (x ^^^ n) _ rfl
        rw [HX.out] at h1
        exact h1
      case measure => simp [intOf]; omega
    · obtain rfl : i = 64 := by omega
      have HB2 : Hid (Dg.Br 155 wr w.heap.size (withB K n) ∧ Below w.heap.size w wr) := by
        have h1 := HB.out
        rw [List.take_of_length_le (by omega), List.drop_of_length_le (by omega), List.append_nil] at h1
        exact h1
      clear HB
      have hnew := Tryz.new_any wr (HT.out.below HB2.out.2 HT.out.sz)
      have hsr : w.heap.size < wr.heap.size := HB2.out.1.lt
      have Hsr : Hid _ := hsr
      clear hsr
      go_upto_region 9 with (first | (go_at_call 81; refine hnew.mono ?_; clear hnew; rintro z wc ⟨rfl, hh, hbb⟩; have HC : Hid (Tryz.Hsh wc wr.heap.size Dg.start (List.replicate 64 0) 0 ∧ Below wr.heap.size wr wc) := ⟨hh, hbb⟩; clear hh hbb) | fail)
      have hbs : Bs wc (.slice (some ⟨w.heap.size, 0, none⟩) 64 64) (withB K n) := by
        have h1 := (HB2.out.1.keep (HC.out.2.block _ Hsr.out)).bs 64 64 (by simp [withB]; omega) (Nat.le_refl _)
        rw [List.take_of_length_le (by simp [withB]; omega)] at h1
        exact h1
      have hwr := Tryz.write_any (w := wc) (g := wr.heap.size) (l := []) (HT.out.below (HB2.out.2.trans (HC.out.2.mono (Nat.le_of_lt Hsr.out))) HT.out.sz) (by have := HT.out.sz; have := Hsr.out; omega) HC.out.1 (Dg.sofar_nil _) hbs (by intro e; have := Hsr.out; injection e with e; simp at e; omega) (by simp [withB]; omega)
      clear hbs
      rw [List.length_nil, Nat.zero_add, List.nil_append, show (withB K n).length = 64 by simp [withB]; omega] at hwr
      go_wp2_with (first | (go_at_call 71; refine hwr.mono ?_; clear hwr; rintro z wd ⟨rfl, s', R', hh, hs', ho⟩; have HD : Hid (Tryz.Hsh wd wr.heap.size s' R' 64 ∧ Dg.Sofar s' R' (withB K n) ∧ Wo (fun j => j = wr.heap.size) wc wd) := ⟨hh, hs', ho⟩; clear hh hs' ho) | fail)
      go_ret
      refine ⟨wr.heap.size, s', R', rfl, Nat.le_of_lt Hsr.out, HD.out.1, ?_, ?_⟩
      · have h1 := HD.out.2.1
        rw [HK.out, ← HL.out] at h1
        exact h1
      · have hb1 : Below wr.heap.size wr wd := Wo.toBelow HC.out.2 HD.out.2.2 (fun k e => by rw [e]; exact Nat.le_refl _) HC.out.2.size
        exact HB2.out.2.trans (hb1.mono (Nat.le_of_lt Hsr.out))
end Go.Proofs

namespace Go.Proofs
open Go.RowKit Go.Wi Go.Dg
theorem Tryz.new32 (w : World) (l : List UInt8) (hl : l.length = 32) : ∀ c : Array Value, c.size = 32 → (storeCells ⟨w.heap.size, 0, none⟩ (Lib.byteCells l) 0).run Tryz.prog (w.alloc (.cells c 102)) = .ok () (w.alloc (.cells (Lib.byteCells l).toArray 102)) := fun c hc =>
  run_storeCells_new w 102 c (Lib.byteCells l).toArray (Tryz.size32 l hl) (by simp [hc, Lib.byteCells, hl]) (Dg.all_byte l)
/-- The key, as it is taken. -/
def Dg.key0 (key : List UInt8) : List UInt8 := if 64 < key.length then Dg.sum key else key
theorem Dg.key0_len (key : List UInt8) : (Dg.key0 key).length ≤ 64 := by
  unfold Dg.key0
  split
  · rw [Dg.sum_len]; omega
  · omega
theorem Dg.key64_0 (key : List UInt8) : Dg.key0 key ++ List.replicate (64 - (Dg.key0 key).length) 0 = key64 key := rfl
set_option maxRecDepth 20000 in
set_option maxHeartbeats 1000000 in
theorem Tryz.mac_any {w : World} {key b : List UInt8} {U V : Value} (hT : Tryz.Tq w) (hk : Bs w U key) (hku : ∀ k, U.ownBlock = some k → k < w.heap.size) (hkc : key.length ≤ 900000000000000) (hb : Bs w V b) (hv : ∀ k, V.ownBlock = some k → k < w.heap.size) (hc : b.length ≤ 800000000000000) :
    Calls Tryz.prog 53 #[U, V] w fun e w' => e = .returned (.agg (Lib.byteCells (Dg.mac key b)).toArray) ∧ Below w.heap.size w w' := by
  obtain ⟨ad, cap, rfl, hx⟩ := hk.ex
  clear hx
  have HT : Hid _ := hT
  have HU : Hid _ := hk
  have HUo : Hid _ := hku
  have HBs : Hid _ := hb
  have HV : Hid _ := hv
  clear hT hb hv hk hku
  obtain ⟨L, hL⟩ : ∃ L, L = key.length := ⟨_, rfl⟩
  have HL : Hid (L = key.length) := hL
  rw [← hL] at HU HUo hkc ⊢
  clear hL
  go_enter Tryz.func53, Tryz.ntmps53
  go_upto_if 11 with (fail)
  obtain ⟨wa, hwa⟩ : ∃ wa, wa = w.alloc (.cells (Lib.byteCells (List.replicate 32 0)).toArray 102) := ⟨_, rfl⟩
  have HA : Hid (Dg.Br 102 wa w.heap.size (List.replicate 32 0) ∧ Below w.heap.size w wa) := by
    rw [hwa]
    exact ⟨heap_alloc_new w _, (Below.refl _ w).alloc (Nat.le_refl _) _⟩
  have Hew : Hid (w.alloc (.cells (Lib.byteCells (List.replicate 32 0)).toArray 102) = wa) := hwa.symm
  clear hwa
  show Code.wp _ _ _ _ (w.alloc (.cells (Lib.byteCells (List.replicate 32 0)).toArray 102))
  rw [Hew.out]
  clear Hew
  go_cut [0] (fun v wx => Hid (Bs wx v (Dg.key0 key) ∧ (∀ k, v.ownBlock = some k → k < wx.heap.size) ∧ Below wa.heap.size wa wx))
  case first =>
    have hsum := Tryz.sum_any (w := wa) (HT.out.below HA.out.2 HT.out.sz) (HU.out.below HA.out.2 HUo.out) (fun k e => Nat.lt_of_lt_of_le (HUo.out k e) HA.out.2.size) (by rw [← HL.out]; exact hkc)
    by_cases hp : 64 < L
    · have q1 : (64 : Int) < (L : Int) := by omega
      obtain ⟨M, hM⟩ : ∃ M, M = Dg.sum key := ⟨_, rfl⟩
      have hMl : M.length = 32 := by rw [hM]; exact Dg.sum_len key
      rw [← hM] at hsum
      have HM : Hid (M = Dg.sum key) := hM
      have l32 : (Lib.byteCells M).length = 32 := by rw [byteCells_len]; exact hMl
      clear hM
      go_wp2_with (first | (go_at_call 69; refine hsum.mono ?_; clear hsum; rintro z wb ⟨rfl, hb1⟩; have HB1 : Hid _ := hb1; clear hb1; have st := Tryz.new32 wb M hMl) | fail)
      go_meet
      case rel =>
        have hbr : Dg.Br 102 (wb.alloc (.cells (Lib.byteCells M).toArray 102)) wb.heap.size M := heap_alloc_new wb _
        refine ⟨?_, fun k e => ?_, HB1.out.alloc HB1.out.size _⟩
        · have h1 := hbr.bs 32 32 (by omega) (Nat.le_refl _)
          rw [List.take_of_length_le (by omega)] at h1
          unfold Dg.key0
          rw [if_pos (by rw [← HL.out]; exact hp), ← HM.out]
          exact h1
        · cases e
          exact hbr.lt
    · have q1 : ¬ (64 : Int) < (L : Int) := by omega
      clear hsum
      go_wp2_with (fail)
      go_meet
      case rel =>
        refine ⟨?_, fun k e => Nat.lt_of_lt_of_le (HUo.out k e) HA.out.2.size, Below.refl _ _⟩
        unfold Dg.key0
        rw [if_neg (by rw [← HL.out]; exact hp)]
        exact HU.out.below HA.out.2 HUo.out
  case rest =>
    clear HU HUo
    have HC : Hid _ := hcut
    clear hcut
    have H0 : Hid (Below w.heap.size w wc ∧ Dg.Br 102 wc w.heap.size (List.replicate 32 0) ∧ Tryz.Tq wc ∧ Bs wc V b ∧ (∀ k, V.ownBlock = some k → k < wc.heap.size) ∧ w.heap.size < wc.heap.size) := by
      have h1 : Below w.heap.size w wc := HA.out.2.trans (HC.out.2.2.mono HA.out.2.size)
      have h2 := HA.out.1.keep (HC.out.2.2.block _ HA.out.1.lt)
      exact ⟨h1, h2, HT.out.below h1 HT.out.sz, HBs.out.below h1 HV.out, fun k e => Nat.lt_of_lt_of_le (HV.out k e) h1.size, h2.lt⟩
    obtain ⟨k, hkk⟩ : ∃ k, k = Dg.key0 key := ⟨_, rfl⟩
    have Hk64 : Hid (k ++ List.replicate (64 - k.length) 0 = key64 key) := by rw [hkk]; exact Dg.key64_0 key
    have hkl : k.length ≤ 64 := by rw [hkk]; exact Dg.key0_len key
    rw [← hkk] at HC
    clear hkk HA HBs HV
    have hk1 := Tryz.keyed_any (w := wc) 54 H0.out.2.2.1 HC.out.1 HC.out.2.1 hkl
    rw [Hk64.out] at hk1
    go_wp2_with (fail)
    refine hk1.mono ?_
    clear hk1
    rintro z w1 ⟨g1, s1, R1, rfl, hg1, hh1, hs1, hb1⟩
    have H1 : Hid (wc.heap.size ≤ g1 ∧ Tryz.Hsh w1 g1 s1 R1 64 ∧ Dg.Sofar s1 R1 (withB (key64 key) 54) ∧ Below wc.heap.size wc w1) := ⟨hg1, hh1, hs1, hb1⟩
    clear hg1 hh1 hs1 hb1
    have hl64 : ∀ n, (withB (key64 key) n).length = 64 := fun n => by rw [withB, List.length_map]; exact Dg.key64_len key
    have Hl64 : Hid _ := hl64
    have hw1 := Tryz.write_any (w := w1) (g := g1) (l := withB (key64 key) 54) (H0.out.2.2.1.below H1.out.2.2.2 H0.out.2.2.1.sz) (by have := H0.out.2.2.1.sz; have := H1.out.1; omega) (by rw [hl64]; exact H1.out.2.1) H1.out.2.2.1 (H0.out.2.2.2.1.below H1.out.2.2.2 H0.out.2.2.2.2.1) (fun e => by have := H0.out.2.2.2.2.1 _ e; have := H1.out.1; omega) (by rw [hl64]; omega)
    clear hl64
    go_wp2_with (fail)
    refine hw1.mono ?_
    clear hw1
    rintro z w2 ⟨rfl, s2, R2, hh2, hs2, ho2⟩
    have H2 : Hid (Tryz.Hsh w2 g1 s2 R2 (withB (key64 key) 54 ++ b).length ∧ Dg.Sofar s2 R2 (withB (key64 key) 54 ++ b) ∧ Below wc.heap.size wc w2) := by
      rw [List.length_append]
      exact ⟨hh2, hs2, Wo.toBelow H1.out.2.2.2 ho2 (fun j e => by rw [e]; exact H1.out.1) H1.out.2.2.2.size⟩
    clear hh2 hs2 ho2
    have hs3 := Tryz.sumH_any (w := w2) (g := g1) (H0.out.2.2.1.below H2.out.2.2 H0.out.2.2.1.sz) H2.out.1 H2.out.2.1 (by rw [List.length_append, Hl64.out]; omega)
    obtain ⟨M, hM⟩ : ∃ M, M = Dg.sum (withB (key64 key) 54 ++ b) := ⟨_, rfl⟩
    have hMl : M.length = 32 := by rw [hM]; exact Dg.sum_len _
    rw [← hM] at hs3
    have HM : Hid (M = Dg.sum (withB (key64 key) 54 ++ b)) := hM
    have l32 : (Lib.byteCells M).length = 32 := by rw [byteCells_len]; exact hMl
    clear hM
    go_wp2_with (fail)
    refine hs3.mono ?_
    clear hs3
    rintro z w3 ⟨rfl, hb3⟩
    have HB3 : Hid (Below wc.heap.size wc w3) := H2.out.2.2.trans (hb3.mono H2.out.2.2.size)
    clear hb3
    have st3 := Tryz.new32 w3 M hMl
    go_upto_region 7 with (fail)
    obtain ⟨w4, hw4⟩ : ∃ w4, w4 = w3.alloc (.cells (Lib.byteCells M).toArray 102) := ⟨_, rfl⟩
    have H4 : Hid (Dg.Br 102 w4 w3.heap.size M ∧ Below wc.heap.size wc w4 ∧ wc.heap.size ≤ w3.heap.size ∧ w3.heap.size < w4.heap.size) := by
      rw [hw4]
      have h1 : Dg.Br 102 (w3.alloc (.cells (Lib.byteCells M).toArray 102)) w3.heap.size M := heap_alloc_new w3 _
      exact ⟨h1, HB3.out.alloc HB3.out.size _, HB3.out.size, h1.lt⟩
    rw [← hw4]
    clear hw4 st3 HB3 H2 H1
    generalize w3.heap.size = g7 at *
    have hk5 := Tryz.keyed_any (w := w4) 92 (H0.out.2.2.1.below H4.out.2.1 H0.out.2.2.1.sz) (HC.out.1.below H4.out.2.1 HC.out.2.1) (fun j e => Nat.lt_of_lt_of_le (HC.out.2.1 j e) H4.out.2.1.size) hkl
    rw [Hk64.out] at hk5
    go_wp2_with (fail)
    refine hk5.mono ?_
    clear hk5
    rintro z w5 ⟨g5, s5, R5, rfl, hg5, hh5, hs5, hb5⟩
    have H5 : Hid (w4.heap.size ≤ g5 ∧ Tryz.Hsh w5 g5 s5 R5 64 ∧ Dg.Sofar s5 R5 (withB (key64 key) 92) ∧ Below w4.heap.size w4 w5) := ⟨hg5, hh5, hs5, hb5⟩
    clear hg5 hh5 hs5 hb5
    have hbs5 : Bs w5 (.slice (some ⟨g7, 0, none⟩) 32 32) M := by
      have h1 := (H4.out.1.keep (H5.out.2.2.2.block _ H4.out.2.2.2)).bs 32 32 (by omega) (Nat.le_refl _)
      rw [List.take_of_length_le (by omega)] at h1
      exact h1
    have HB5 : Hid (Below wc.heap.size wc w5) := H4.out.2.1.trans (H5.out.2.2.2.mono H4.out.2.1.size)
    have hw5 := Tryz.write_any (w := w5) (g := g5) (l := withB (key64 key) 92) (H0.out.2.2.1.below HB5.out H0.out.2.2.1.sz) (by have := H0.out.2.2.1.sz; have := H5.out.1; have := H4.out.2.1.size; omega) (by rw [Hl64.out]; exact H5.out.2.1) H5.out.2.2.1 hbs5 (fun e => by have := H4.out.2.2.2; have := H5.out.1; injection e with e; simp at e; omega) (by rw [Hl64.out]; omega)
    clear hbs5
    go_wp2_with (fail)
    refine hw5.mono ?_
    clear hw5
    rintro z w6 ⟨rfl, s6, R6, hh6, hs6, ho6⟩
    have H6 : Hid (Tryz.Hsh w6 g5 s6 R6 (withB (key64 key) 92 ++ M).length ∧ Dg.Sofar s6 R6 (withB (key64 key) 92 ++ M) ∧ Below wc.heap.size wc w6) := by
      rw [List.length_append]
      exact ⟨hh6, hs6, Wo.toBelow HB5.out ho6 (fun j e => by rw [e]; have := H5.out.1; have := H4.out.2.1.size; omega) HB5.out.size⟩
    clear hh6 hs6 ho6
    have hs7 := Tryz.sumH_any (w := w6) (g := g5) (H0.out.2.2.1.below H6.out.2.2 H0.out.2.2.1.sz) H6.out.1 H6.out.2.1 (by rw [List.length_append, Hl64.out]; omega)
    obtain ⟨N, hN⟩ : ∃ N, N = Dg.sum (withB (key64 key) 92 ++ M) := ⟨_, rfl⟩
    have hNl : N.length = 32 := by rw [hN]; exact Dg.sum_len _
    rw [← hN] at hs7
    have HN : Hid (N = Dg.mac key b) := by
      show N = Dg.sum _
      rw [hN, HM.out]
    clear hN
    go_wp2_with (fail)
    refine hs7.mono ?_
    clear hs7
    rintro z w8 ⟨rfl, hb8⟩
    have HB8 : Hid (Below wc.heap.size wc w8) := H6.out.2.2.trans (hb8.mono H6.out.2.2.size)
    clear hb8
    have hbr : Dg.Br 102 w8 w.heap.size (List.replicate 32 0) := H0.out.2.1.keep (HB8.out.block _ H0.out.2.2.2.2.2)
    have HBR : Hid _ := hbr
    have st := Tryz.over32 hbr (by simp) N hNl
    have l32' : (Lib.byteCells N).length = 32 := by rw [byteCells_len]; exact hNl
    clear hbr
    go_wp2
    refine bodyPost_ret (results_cell_row rfl _ _ w.heap.size _ _ _ _ rfl (Dg.Br.setRow HBR.out N) Tryz.underlying102 rfl (Tryz.size32 N hNl)) rfl ⟨by rw [HN.out], below_setRow (H0.out.1.trans (HB8.out.mono H0.out.1.size)) (Nat.le_refl _) _⟩
end Go.Proofs
