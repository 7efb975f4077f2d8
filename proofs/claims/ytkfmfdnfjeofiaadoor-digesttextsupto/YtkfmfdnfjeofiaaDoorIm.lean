/-
  The program's sum under a key: keyed.
-/
import Derived.Test.YtkfmfdnfjeofiaaDoorIl
namespace Go.Proofs
open Go.RowKit Go.Wi Go.Dg
theorem Dg.Br.at {T : TypeId} {w : World} {g : Nat} {R : List UInt8} (h : Dg.Br T w g R) (i : Nat) : w.cell? ⟨g, i, none⟩ = (Lib.byteCells R)[i]? := by
  rw [cell_of_row _ _ _ _ _ _ h]
  simp
theorem Dg.Br.over {T : TypeId} {w : World} {g : Nat} {R : List UInt8} (h : Dg.Br T w g R) (xs : List UInt8) (hx : xs.length ≤ R.length) : Dg.Br T (w.setCells g 0 (Lib.byteCells xs)) g (xs ++ R.drop xs.length) := by
  have h1 := Dg.sets_block (T := T) (Lib.byteCells xs) 0 w _ h (by rw [byteCells_len, byteCells_len]; omega)
  rw [List.take_zero, List.nil_append, Nat.zero_add, byteCells_len] at h1
  unfold Dg.Br
  rw [h1, byteCells_app]
  congr 3
  simp [Lib.byteCells, List.map_drop]
theorem Tryd.Br.copy {w : World} {g : Nat} {R : List UInt8} {T : TypeId} (h : Dg.Br T w g R) {ad : Option Addr} {L cap : Nat} {b : List UInt8} (hb : Bs w (.slice ad L cap) b) (d dc : Nat) (hd : d ≤ R.length) (hbd : b.length ≤ d) (ty : TypeId) :
    (Builtin.copy_ #[24, 24] ty #[.slice (some ⟨g, 0, none⟩) d dc, .slice ad L cap]).run Tryd.prog w = .ok (goInt b.length) (w.setCells g 0 (Lib.byteCells b)) := by
  obtain ⟨ad', cap', e, hcap, hnil, hbx⟩ := hb.ex
  injection e with e1 e2 e3
  subst e1 e2 e3
  have hlen : (Lib.byteCells b).length = Nat.min b.length d := by rw [byteCells_len]; exact (Nat.min_eq_left hbd).symm
  rcases hbx with rfl | ⟨gb, ob, rfl, hgb, hce⟩
  · exact run_copy_none (P := Tryd.prog) w 24 24 ty 5 _ ad d dc 0 cap Tryd.underlying24 Dg.inf8 (by show min 0 d = 0; omega)
  · have := run_copy_cells (P := Tryd.prog) w 24 24 ty 5 g 0 d dc ⟨gb, ob, none⟩ b.length cap (Lib.byteCells b) Tryd.underlying24 Dg.inf8 hlen (fun j v hv => by
      rw [Addr.add_mid]
      exact hce j v hv) (fun j hj => by
      rw [byteCells_len] at hj
      rw [h.at, Nat.zero_add, List.getElem?_eq_getElem (by rw [byteCells_len]; omega)]
      rfl) (fun j _ => h.frozen _) (fun v hv => by
      simp only [Lib.byteCells, List.mem_map] at hv
      obtain ⟨x, _, rfl⟩ := hv
      rfl)
    rw [byteCells_len] at this
    exact this
theorem Dg.Br.bs {T : TypeId} {w : World} {g : Nat} {l : List UInt8} (h : Dg.Br T w g l) (n c : Nat) (hn : n ≤ l.length) (hc : n ≤ c) : Bs w (.slice (some ⟨g, 0, none⟩) n c) (l.take n) := by
  have hl : (l.take n).length = n := by rw [List.length_take]; omega
  refine ⟨some ⟨g, 0, none⟩, c, by rw [hl], by rw [hl]; exact hc, (fun e => by cases e), .inr ⟨g, 0, rfl, h.lt, fun j u hu => ?_⟩⟩
  rw [h.at, Nat.zero_add]
  simp only [Lib.byteCells, List.getElem?_map, List.getElem?_take] at hu ⊢
  split at hu
  · exact hu
  · cases hu
theorem Dg.xor_step (K : List UInt8) (i : Nat) (n : UInt8) (h : i < K.length) {hl : i < (withB (K.take i) n ++ K.drop i).length} (x : UInt8) (hx : x = (withB (K.take i) n ++ K.drop i)[i]'hl) : (withB (K.take i) n ++ K.drop i).set i (x ^^^ n) = withB (K.take (i + 1)) n ++ K.drop (i + 1) := by
  have hw : (withB (K.take i) n).length = i := by simp [withB]; omega
  have e0 : x = K[i] := by rw [hx, List.getElem_append_right (by omega), List.getElem_drop]; simp [hw]
  rw [List.set_append_right _ _ (by omega), hw, Nat.sub_self, List.drop_eq_getElem_cons h, List.set_cons_zero, List.take_add_one, List.getElem?_eq_getElem h, e0]
  unfold withB
  rw [List.map_append, List.append_assoc]
  rfl
set_option maxRecDepth 20000 in
set_option maxHeartbeats 1000000 in
theorem Tryd.keyed_any {w : World} {b : List UInt8} {V : Value} (n : UInt8) (hT : Tryd.Tq w) (hb : Bs w V b) (hv : ∀ k, V.ownBlock = some k → k < w.heap.size) (hc : b.length ≤ 64) :
    Calls Tryd.prog 39 #[V, .int .u8 (n.toNat : Int)] w fun e w' => ∃ g s R, e = .returned (.pointer (some ⟨g, 0, none⟩)) ∧ w.heap.size ≤ g ∧ Tryd.Hsh w' g s R 64 ∧ Dg.Sofar s R (withB (b ++ List.replicate (64 - b.length) 0) n) ∧ Below w.heap.size w w' := by
  obtain ⟨ad, cap, rfl, hcap, hnil, hbx⟩ := hb.ex
  have HT : Hid _ := hT
  have HBs : Hid _ := hb
  have HV : Hid _ := hv
  clear hT hb hbx hnil hcap hv
  obtain ⟨L, hL⟩ : ∃ L, L = b.length := ⟨_, rfl⟩
  have HL : Hid (L = b.length) := hL
  rw [← hL] at HBs HV ⊢
  clear hL
  go_enter Tryd.func39, Tryd.ntmps39
  go_upto_region 2 with (fail)
  obtain ⟨wa, hwa⟩ : ∃ wa, wa = w.alloc (.cells (Lib.byteCells (List.replicate 64 0)).toArray 69) := ⟨_, rfl⟩
  have hsa : wa.heap.size = w.heap.size + 1 := by rw [hwa]; simp only [World.size_alloc]
  have HA : Hid (Dg.Br 69 wa w.heap.size (List.replicate 64 0) ∧ Below w.heap.size w wa) := by
    rw [hwa]
    exact ⟨heap_alloc_new w _, (Below.refl _ w).alloc (Nat.le_refl _) _⟩
  have Hew : Hid (w.alloc (.cells (Lib.byteCells (List.replicate 64 0)).toArray 69) = wa) := hwa.symm
  have Hsa : Hid (wa.heap.size = w.heap.size + 1) := hsa
  clear hwa hsa
  have hcp := Tryd.Br.copy HA.out.1 (HBs.out.below HA.out.2 HV.out) 64 64 (by simp) hc
  refine wp_region_lit ?_
  show wpList _ _ _ _ _ (w.alloc (.cells (Lib.byteCells (List.replicate 64 0)).toArray 69))
  rw [Hew.out]
  go_upto_region 3 with (fail)
  obtain ⟨K, hK⟩ : ∃ K : List UInt8, K = b ++ List.replicate (64 - b.length) 0 := ⟨_, rfl⟩
  have hKl : K.length = 64 := by rw [hK, List.length_append, List.length_replicate]; omega
  have HK : Hid (K = b ++ List.replicate (64 - b.length) 0) := hK
  have HB : Hid (Dg.Br 69 (wa.setCells w.heap.size 0 (Lib.byteCells b)) w.heap.size K ∧ Below w.heap.size w (wa.setCells w.heap.size 0 (Lib.byteCells b))) := by
    have h1 := HA.out.1.over b (by simp; omega)
    rw [List.drop_replicate, ← hK] at h1
    exact ⟨h1, below_setCells (Nat.le_refl _) _ _ _ HA.out.2⟩
  clear hcp hK HA
  generalize wa.setCells w.heap.size 0 (Lib.byteCells b) = wb at *
  go_wp2
  go_loopw [11] (fun iv wr => ∃ (i : Nat), iv = .int .i64 i ∧ i ≤ 64 ∧ Hid (Dg.Br 69 wr w.heap.size (withB (K.take i) n ++ K.drop i) ∧ Below w.heap.size w wr)) (fun iv _ => 64 - (intOf iv).toNat)
  case atStart => exact ⟨0, rfl, by omega, HB⟩
  case round =>
    clear HB
    obtain ⟨i, rfl, hi64, HB⟩ := hrel
    by_cases hi : i < 64
    · have q1 : (i : Int) < 64 := by omega
      have q2 : (0 : Int) ≤ (i : Int) := by omega
      have hl : i < (withB (K.take i) n ++ K.drop i).length := by simp [withB]; omega
      have c1 := HB.out.1.cell hl
      have c2 := HB.out.1.frozen i
      obtain ⟨x, hx⟩ : ∃ x, x = (withB (K.take i) n ++ K.drop i)[i]'hl := ⟨_, rfl⟩
      rw [← hx] at c1
      have HX : Hid _ := Dg.xor_step K i n (by omega) x hx
      have e1 := Dg.xor8 x n
      clear hx hl
      go_wp2
      go_roundw
      case rel =>
        refine ⟨i + 1, by go_num, by omega, ?_, HB.out.2.setCell (p := ⟨w.heap.size, i, none⟩) (Nat.le_refl _) _⟩
        have h1 := HB.out.1.set i (x ^^^ n) _ rfl
        rw [HX.out] at h1
        exact h1
      case measure => simp [intOf]; omega
    · obtain rfl : i = 64 := by omega
      have HB2 : Hid (Dg.Br 69 wr w.heap.size (withB K n) ∧ Below w.heap.size w wr) := by
        have h1 := HB.out
        rw [List.take_of_length_le (by omega), List.drop_of_length_le (by omega), List.append_nil] at h1
        exact h1
      clear HB
      have hnew := Tryd.new_any wr (HT.out.below HB2.out.2 HT.out.sz)
      have hsr : w.heap.size < wr.heap.size := HB2.out.1.lt
      have Hsr : Hid _ := hsr
      clear hsr
      go_upto_region 9 with (first | (go_at_call 21; refine hnew.mono ?_; clear hnew; rintro z wc ⟨rfl, hh, hbb⟩; have HC : Hid (Tryd.Hsh wc wr.heap.size Dg.start (List.replicate 64 0) 0 ∧ Below wr.heap.size wr wc) := ⟨hh, hbb⟩; clear hh hbb) | fail)
      have hbs : Bs wc (.slice (some ⟨w.heap.size, 0, none⟩) 64 64) (withB K n) := by
        have h1 := (HB2.out.1.keep (HC.out.2.block _ Hsr.out)).bs 64 64 (by simp [withB]; omega) (Nat.le_refl _)
        rw [List.take_of_length_le (by simp [withB]; omega)] at h1
        exact h1
      have hwr := Tryd.write_any (w := wc) (g := wr.heap.size) (l := []) (HT.out.below (HB2.out.2.trans (HC.out.2.mono (Nat.le_of_lt Hsr.out))) HT.out.sz) (by have := HT.out.sz; have := Hsr.out; omega) HC.out.1 (Dg.sofar_nil _) hbs (by intro e; have := Hsr.out; injection e with e; simp at e; omega) (by simp [withB]; omega)
      clear hbs
      rw [List.length_nil, Nat.zero_add, List.nil_append, show (withB K n).length = 64 by simp [withB]; omega] at hwr
      go_wp2_with (first | (go_at_call 23; refine hwr.mono ?_; clear hwr; rintro z wd ⟨rfl, s', R', hh, hs', ho⟩; have HD : Hid (Tryd.Hsh wd wr.heap.size s' R' 64 ∧ Dg.Sofar s' R' (withB K n) ∧ Wo (fun j => j = wr.heap.size) wc wd) := ⟨hh, hs', ho⟩; clear hh hs' ho) | fail)
      go_ret
      refine ⟨wr.heap.size, s', R', rfl, Nat.le_of_lt Hsr.out, HD.out.1, ?_, ?_⟩
      · have h1 := HD.out.2.1
        rw [HK.out, ← HL.out] at h1
        exact h1
      · have hb1 : Below wr.heap.size wr wd := Wo.toBelow HC.out.2 HD.out.2.2 (fun k e => by rw [e]; exact Nat.le_refl _) HC.out.2.size
        exact HB2.out.2.trans (hb1.mono (Nat.le_of_lt Hsr.out))
end Go.Proofs
