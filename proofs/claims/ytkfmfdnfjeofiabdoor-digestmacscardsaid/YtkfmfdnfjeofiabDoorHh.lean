/-
  The document's Mac.
-/
import Derived.Test.YtkfmfdnfjeofiabDoorHg
import Derived.Test.YtkfmfdnfjeofiabDoorLq
namespace Go.Dg
open Go.RowKit Go.Wi
theorem Ob.cell {w : World} {B g n cap : Nat} {l : List UInt8} (h : Ob w B (.slice (some ⟨g, 0, none⟩) n cap) l) {i : Nat} (hi : i < l.length) : w.cell? ⟨g, i, none⟩ = some (.int .u8 (l[i].toNat : Nat)) ∧ w.frozen? ⟨g, i, none⟩ = false := by
  rcases h with ⟨e, _⟩ | ⟨g', cap', e, h1, h2, h3, h4, h5⟩
  · injection e with e1; cases e1
  · injection e with e1 e2 e3
    injection e1 with e1
    injection e1 with e1
    subst e1
    exact ⟨h4 i _ (byteCell hi), (h5 i (by omega)).2⟩
theorem Ob.set {w : World} {B g n cap : Nat} {l : List UInt8} (h : Ob w B (.slice (some ⟨g, 0, none⟩) n cap) l) (i : Nat) (c : UInt8) (v : Int) (hv : v = (c.toNat : Nat)) (hi : i < l.length) : Ob (w.setCell ⟨g, i, none⟩ (.int .u8 v)) B (.slice (some ⟨g, 0, none⟩) n cap) (l.set i c) := by
  subst hv
  rcases h with ⟨e, _⟩ | ⟨g', cap', e, h1, h2, h3, h4, h5⟩
  · injection e with e1; cases e1
  · injection e with e1 e2 e3
    injection e1 with e1
    injection e1 with e1
    subst e1 e3
    obtain ⟨u0, hu0⟩ := Option.isSome_iff_exists.1 (h5 i (by omega)).1
    refine .inr ⟨g, cap, by rw [e2, List.length_set], h1, by simpa using h2, by rw [List.length_set]; exact h3, fun j u hu => ?_, fun j hj => ⟨?_, by rw [World.frozen?_setCell]; exact (h5 j hj).2⟩⟩
    · by_cases hji : j = i
      · subst hji
        rw [byteCell (by rw [List.length_set]; exact hi), List.getElem_set_self] at hu
        rw [World.cell?_setCell_same _ _ _ hu0]
        exact hu
      · rw [World.cell?_setCell_other _ _ _ _ (fun e => hji (by injection e with e1 e2; exact e2.symm))]
        refine h4 j u ?_
        have hj := (List.getElem?_eq_some_iff.1 hu).1
        rw [byteCells_len, List.length_set] at hj
        rw [byteCell (by rw [List.length_set]; exact hj), List.getElem_set_ne (Ne.symm hji)] at hu
        rw [byteCell hj]
        exact hu
    · by_cases hji : j = i
      · subst hji
        rw [World.cell?_setCell_same _ _ _ hu0]; rfl
      · rw [World.cell?_setCell_other _ _ _ _ (fun e => hji (by injection e with e1 e2; exact e2.symm))]
        exact (h5 j hj).1
end Go.Dg
namespace Go.Proofs
open Go.RowKit Go.Wi Go.Dg
theorem Dg.xor8 (x n : UInt8) : bits BinOp.xor IntKind.u8 (x.toNat : Int) (n.toNat : Int) = (((x ^^^ n).toNat : Nat) : Int) := by
  have h1 := x.toNat_lt
  have h2 := n.toNat_lt
  rw [u8_xor_nat _ _ h1 h2, UInt8.toNat_xor]
theorem Dg.with_next (b : ByteArray) (i : Nat) (n : UInt8) (h : i < b.size) {hl : i < (withB (b.toList.take i) n ++ b.toList.drop i).length} (x : UInt8) (hx : x = (withB (b.toList.take i) n ++ b.toList.drop i)[i]'hl) : (withB (b.toList.take i) n ++ b.toList.drop i).set i (x ^^^ n) = withB (b.toList.take (i + 1)) n ++ b.toList.drop (i + 1) := by
  have h0 : i < b.toList.length := by rw [Dg.list_len]; exact h
  have e1 : (withB (b.toList.take i) n).length = i := by simp only [withB, List.length_map, List.length_take]; omega
  have e2 : x = b.toList[i] := by
    rw [hx, List.getElem_append_right (by omega)]
    simp [e1]
  rw [List.set_append_right _ _ (by omega), e1, Nat.sub_self, List.drop_eq_getElem_cons h0, List.set_cons_zero, List.take_add_one, List.getElem?_eq_getElem h0, e2]
  simp only [withB, List.map_append, Option.toList_some, List.map_cons, List.map_nil, List.append_assoc, List.cons_append, List.nil_append]
set_option maxRecDepth 20000 in
set_option maxHeartbeats 1000000 in
theorem Tryd.refWith_any (b : ByteArray) (n : UInt8) (hb : b.size ≤ 140737488355000) (w : World) :
    Calls Tryd.prog 20 #[.string b, .int .u8 (n.toNat : Nat)] w fun e w' => e = .returned (.string ⟨(withB b.toList n).toArray⟩) ∧ Below w.heap.size w w' := by
  have hcv := Tryd.conv_sb2 b
  obtain ⟨cap, hcap⟩ : ∃ cap, cap = grownCap w b.size 0 5 := ⟨_, rfl⟩
  have Ho : Hid (Ob (Lib.bytesWorld w 5 b) w.heap.size (.slice (some ⟨w.heap.size, 0, none⟩) b.size cap) b.toList) := by rw [hcap, ByteArray.toList_eq]; exact Dg.bytesW_ob w 5 b (Nat.le_refl _)
  have Hb : Hid (Below w.heap.size w (Lib.bytesWorld w 5 b)) := Dg.bytesW_below w _ b
  go_enter Tryd.func20, Tryd.ntmps20
  go_wp2
  rw [← hcap]
  clear hcap hcv
  go_loopw [6] (fun iv wr => ∃ (i : Nat), iv = .int .i64 (i : Int) ∧ i ≤ b.size ∧ Hid (Ob wr w.heap.size (.slice (some ⟨w.heap.size, 0, none⟩) b.size cap) (withB (b.toList.take i) n ++ b.toList.drop i)) ∧ Hid (Below w.heap.size w wr)) (fun iv _ => b.size - (intOf iv).toNat)
  case atStart => exact ⟨0, rfl, by omega, Ho, Hb⟩
  case round =>
    clear Ho Hb
    obtain ⟨i, rfl, hi, Ho, Hw⟩ := hrel
    by_cases hlt : i < b.size
    · have q1 : (i : Int) < b.size := by omega
      have hl : i < (withB (b.toList.take i) n ++ b.toList.drop i).length := by
        have := Dg.list_len b
        simp only [withB, List.length_append, List.length_map, List.length_take, List.length_drop]
        omega
      obtain ⟨hc, hf⟩ := Ho.out.cell hl
      obtain ⟨x, hx⟩ : ∃ x, x = (withB (b.toList.take i) n ++ b.toList.drop i)[i]'hl := ⟨_, rfl⟩
      rw [← hx] at hc
      have HX : Hid (x = (withB (b.toList.take i) n ++ b.toList.drop i)[i]'hl) := hx
      clear hx
      go_wp2
      go_roundw
      case rel =>
        refine ⟨i + 1, by go_num, by omega, ?_, Hw.out.setCell (p := ⟨w.heap.size, i, none⟩) (Nat.le_refl _) _⟩
        have h1 := Ho.out.set i (x ^^^ n) _ (Dg.xor8 x n) hl
        rw [Dg.with_next b i n hlt x HX.out] at h1
        exact h1
      case measure => simp [intOf]; omega
    · have q1 : ¬ (i : Int) < b.size := by omega
      obtain rfl : i = b.size := by omega
      have hcv := Tryd.conv_bs Ho.out.bs
      go_wp2
      go_ret
      refine ⟨?_, Hw.out⟩
      rw [List.take_of_length_le (by rw [Dg.list_len]; omega), List.drop_of_length_le (by rw [Dg.list_len]; omega), List.append_nil]
      rfl
theorem Tryd.makeZ {ops : Array Oper} {rest : List Oper} {o : Oper} {a : Act} {Q : Exit → Act → World → Prop} {w : World} (hgd : o.guard = none) (l c : Operand) (hop : o.op = Op.makeSlice 23 l c)
    (L : Int) (n : Nat) (hl : a.eval l = .int .i64 L) (hc : a.eval c = .int .i64 L) (hL : L = (n : Int)) (hn : n ≤ 140737488355328)
    (hK : ∀ w', Ob w' w.heap.size (.slice (some ⟨w.heap.size, 0, none⟩) n n) (List.replicate n 0) → Below w.heap.size w w' → wpList Tryd.prog ops Q rest (a.put o.dst (.slice (some ⟨w.heap.size, 0, none⟩) n n)) w') : wpList Tryd.prog ops Q (o :: rest) a w := by
  obtain ⟨i0, hi0, hz0, hz1, hz2⟩ := info_parts Tryd.info8
  refine wpList_make_full w hgd l c 23 hop w.heap.size 5 i0 (.int .u8 0) 1 Tryd.underlying23 hi0 hz0 hz1 .i64 .i64 L L n hl hc hL hL (by rw [hz2]; omega) (by unfold maxLen; omega) (Nat.le_refl _) ?_
  intro w' hown hg
  refine hK w' ?_ ((Below.refl _ w).grown hg (Nat.le_refl _) fun k e => by cases e)
  have e2 : (madeCells (Value.int .u8 0).cells (n * 1)).toList = Lib.byteCells (List.replicate n 0) := by
    rw [show (Value.int .u8 0).cells = #[.int .u8 0] from rfl, toList_madeCells_one, Nat.mul_one]
    simp [Lib.byteCells]
  refine Ob.ofRow (n := n) (T := 5) ?_
  rw [← e2]
  exact hown
theorem Dg.app_list (x y : ByteArray) : (x ++ y).toList = x.toList ++ y.toList := by
  simp [ByteArray.toList_eq]
theorem Dg.zeros_list (n : Nat) : (⟨Array.replicate n 0⟩ : ByteArray).toList = List.replicate n 0 := by rw [ByteArray.toList_eq]; simp
theorem Dg.of_list (l : List UInt8) : (⟨l.toArray⟩ : ByteArray).toList = l := by rw [ByteArray.toList_eq]
theorem Dg.of_size (l : List UInt8) : (⟨l.toArray⟩ : ByteArray).size = l.length := rfl
theorem Dg.sum_len (b : List UInt8) : (Dg.sum b).length = 32 := by
  unfold Dg.sum out
  rw [Dg.wbytes_len]
  rfl
theorem Dg.key64_long {k : List UInt8} (h : 64 < k.length) : key64 k = Dg.sum k ++ List.replicate 32 0 := by
  unfold key64
  rw [if_pos h]
  show Dg.sum k ++ List.replicate (64 - (Dg.sum k).length) 0 = _
  rw [Dg.sum_len]
theorem Dg.key64_short {k : List UInt8} (h : ¬ 64 < k.length) : key64 k = k ++ List.replicate (64 - k.length) 0 := by
  unfold key64
  rw [if_neg h]
theorem Dg.key64_len (k : List UInt8) : (key64 k).length = 64 := by
  unfold key64
  have := Dg.sum_len k
  split
  · simp [this]
  · simp; omega
set_option maxRecDepth 20000 in
set_option maxHeartbeats 1000000 in
theorem Tryd.refMac_any (key b : ByteArray) (hk : key.size ≤ 140737488355000) (hb : b.size ≤ 140737488354900) (w : World) :
    Calls Tryd.prog 9 #[.string key, .string b] w fun e w' => e = .returned (.string ⟨(mac key.toList b.toList).toArray⟩) ∧ Below w.heap.size w w' := by
  go_enter Tryd.func9, Tryd.ntmps9
  by_cases h64 : 64 < key.size
  · have q1 : (64 : Int) < key.size := by omega
    obtain ⟨k0, hk0⟩ : ∃ k0 : ByteArray, k0 = ⟨(Dg.sum key.toList).toArray⟩ := ⟨_, rfl⟩
    have hk0s : k0.size = 32 := by rw [hk0, Dg.of_size, Dg.sum_len]
    have hkl0 : key64 key.toList = k0.toList ++ List.replicate 32 0 := by
      rw [Dg.key64_long (by rw [Dg.list_len]; exact h64), hk0, Dg.of_list (Dg.sum key.toList)]
    have HC : Hid (∀ W, Calls Tryd.prog 19 #[.string key] W fun e w' => e = .returned (.string k0) ∧ Below W.heap.size W w') := (fun W => by rw [hk0]; exact Tryd.refSum_any key hk W)
    have HK0 : Hid (key64 key.toList = k0.toList ++ List.replicate 32 0) := hkl0
    obtain ⟨Z, hZ⟩ : ∃ Z : Nat, Z = 32 := ⟨_, rfl⟩
    have q2 : (64 : Int) - k0.size = (Z : Int) := by omega
    have HZ : Hid (Z = 32) := hZ
    have hZ2 : Z ≤ 64 := by omega
    have HK0s : Hid (k0.size = 32) := hk0s
    clear hZ hk0 hkl0 hk0s
    go_wp2_with (first | (go_at_call 19; refine (HC.out _).mono ?_; clear HC; rintro z w0 ⟨rfl, hb0⟩; have HB0 : Hid _ := hb0; clear hb0) | (refine Tryd.makeZ rfl _ _ rfl _ Z rfl rfl rfl (by omega) ?_; intro w1 ho1 hb1; have hcv := Tryd.conv_bs ho1.bs; clear ho1; have HB1 : Hid _ := hb1; clear hb1) | fail)
    obtain ⟨kk, hkk⟩ : ∃ kk : ByteArray, kk = k0 ++ ⟨Array.replicate Z 0⟩ := ⟨_, rfl⟩
    have hkl : kk.toList = key64 key.toList := by rw [hkk, Dg.app_list, HK0.out, HZ.out, Dg.zeros_list]
    have hks : kk.size = 64 := by rw [← Dg.list_len, hkl]; exact Dg.key64_len _
    rw [← hkk]
    clear hkk
    obtain ⟨X, hX⟩ : ∃ X : ByteArray, X = ⟨(withB kk.toList 92).toArray⟩ := ⟨_, rfl⟩
    obtain ⟨Y, hY⟩ : ∃ Y : ByteArray, Y = ⟨(withB kk.toList 54).toArray⟩ := ⟨_, rfl⟩
    have hXl : X.toList = withB (key64 key.toList) 92 := by rw [hX, Dg.of_list, hkl]
    have hYl : Y.toList = withB (key64 key.toList) 54 := by rw [hY, Dg.of_list, hkl]
    have hXs : X.size = 64 := by rw [← Dg.list_len, hXl, withB, List.length_map]; exact Dg.key64_len _
    have hYs : Y.size = 64 := by rw [← Dg.list_len, hYl, withB, List.length_map]; exact Dg.key64_len _
    have c92 : ∀ W, Calls Tryd.prog 20 #[.string kk, .int .u8 92] W fun e w' => e = .returned (.string X) ∧ Below W.heap.size W w' := fun W => by rw [hX]; exact Tryd.refWith_any kk 92 (by omega) W
    have c54 : ∀ W, Calls Tryd.prog 20 #[.string kk, .int .u8 54] W fun e w' => e = .returned (.string Y) ∧ Below W.heap.size W w' := fun W => by rw [hY]; exact Tryd.refWith_any kk 54 (by omega) W
    obtain ⟨S, hS⟩ : ∃ S : ByteArray, S = ⟨(Dg.sum (Y ++ b).toList).toArray⟩ := ⟨_, rfl⟩
    have hSs : S.size = 32 := by rw [hS, Dg.of_size, Dg.sum_len]
    have cS : ∀ W, Calls Tryd.prog 19 #[.string (Y ++ b)] W fun e w' => e = .returned (.string S) ∧ Below W.heap.size W w' := fun W => by rw [hS]; exact Tryd.refSum_any (Y ++ b) (by rw [ByteArray.size_append]; omega) W
    have cT : ∀ W, Calls Tryd.prog 19 #[.string (X ++ S)] W fun e w' => e = .returned (.string ⟨(Dg.sum (X ++ S).toList).toArray⟩) ∧ Below W.heap.size W w' := fun W => Tryd.refSum_any (X ++ S) (by rw [ByteArray.size_append]; omega) W
    have HE : Hid (Dg.sum (X ++ S).toList = mac key.toList b.toList) := (by
      show _ = _
      unfold mac
      rw [Dg.app_list, hXl, hS, Dg.of_list (Dg.sum (Y ++ b).toList), Dg.app_list, hYl])
    clear hX hY hS hkl hXl hYl
    go_wp2_with (first
      | (go_at_call 20; refine (c92 _).mono ?_; clear c92; rintro z w2 ⟨rfl, hb2⟩; have HB2 : Hid _ := hb2; clear hb2)
      | (go_at_call 20; refine (c54 _).mono ?_; clear c54; rintro z w3 ⟨rfl, hb3⟩; have HB3 : Hid _ := hb3; clear hb3)
      | (go_at_call 19; refine (cS _).mono ?_; clear cS; rintro z w4 ⟨rfl, hb4⟩; have HB4 : Hid _ := hb4; clear hb4)
      | (go_at_call 19; refine (cT _).mono ?_; clear cT; rintro z w5 ⟨rfl, hb5⟩; have HB5 : Hid _ := hb5; clear hb5)
      | fail)
    go_ret
    refine ⟨by rw [← HE.out]; rfl, ?_⟩
    have b1 := HB0.out.trans (HB1.out.mono HB0.out.size)
    have b2 := b1.trans (HB2.out.mono b1.size)
    have b3 := b2.trans (HB3.out.mono b2.size)
    have b4 := b3.trans (HB4.out.mono b3.size)
    exact b4.trans (HB5.out.mono b4.size)
  · have q1 : ¬ (64 : Int) < key.size := by omega
    obtain ⟨Z, hZ⟩ : ∃ Z : Nat, Z = 64 - key.size := ⟨_, rfl⟩
    have q2 : (64 : Int) - key.size = (Z : Int) := by omega
    have HZ : Hid (Z = 64 - key.size) := hZ
    have hZ2 : Z ≤ 64 := by omega
    have hkl0 : key64 key.toList = key.toList ++ List.replicate (64 - key.size) 0 := by
      rw [Dg.key64_short (by rw [Dg.list_len]; exact h64), Dg.list_len]
    have HK0 : Hid (key64 key.toList = key.toList ++ List.replicate (64 - key.size) 0) := hkl0
    clear hZ hkl0
    go_wp2_with (first | (refine Tryd.makeZ rfl _ _ rfl _ Z rfl rfl rfl (by omega) ?_; intro w1 ho1 hb1; have hcv := Tryd.conv_bs ho1.bs; clear ho1; have HB1 : Hid _ := hb1; clear hb1) | fail)
    obtain ⟨kk, hkk⟩ : ∃ kk : ByteArray, kk = key ++ ⟨Array.replicate Z 0⟩ := ⟨_, rfl⟩
    have hkl : kk.toList = key64 key.toList := by rw [hkk, Dg.app_list, HK0.out, HZ.out, Dg.zeros_list]
    have hks : kk.size = 64 := by rw [← Dg.list_len, hkl]; exact Dg.key64_len _
    rw [← hkk]
    clear hkk
    obtain ⟨X, hX⟩ : ∃ X : ByteArray, X = ⟨(withB kk.toList 92).toArray⟩ := ⟨_, rfl⟩
    obtain ⟨Y, hY⟩ : ∃ Y : ByteArray, Y = ⟨(withB kk.toList 54).toArray⟩ := ⟨_, rfl⟩
    have hXl : X.toList = withB (key64 key.toList) 92 := by rw [hX, Dg.of_list, hkl]
    have hYl : Y.toList = withB (key64 key.toList) 54 := by rw [hY, Dg.of_list, hkl]
    have hXs : X.size = 64 := by rw [← Dg.list_len, hXl, withB, List.length_map]; exact Dg.key64_len _
    have hYs : Y.size = 64 := by rw [← Dg.list_len, hYl, withB, List.length_map]; exact Dg.key64_len _
    have c92 : ∀ W, Calls Tryd.prog 20 #[.string kk, .int .u8 92] W fun e w' => e = .returned (.string X) ∧ Below W.heap.size W w' := fun W => by rw [hX]; exact Tryd.refWith_any kk 92 (by omega) W
    have c54 : ∀ W, Calls Tryd.prog 20 #[.string kk, .int .u8 54] W fun e w' => e = .returned (.string Y) ∧ Below W.heap.size W w' := fun W => by rw [hY]; exact Tryd.refWith_any kk 54 (by omega) W
    obtain ⟨S, hS⟩ : ∃ S : ByteArray, S = ⟨(Dg.sum (Y ++ b).toList).toArray⟩ := ⟨_, rfl⟩
    have hSs : S.size = 32 := by rw [hS, Dg.of_size, Dg.sum_len]
    have cS : ∀ W, Calls Tryd.prog 19 #[.string (Y ++ b)] W fun e w' => e = .returned (.string S) ∧ Below W.heap.size W w' := fun W => by rw [hS]; exact Tryd.refSum_any (Y ++ b) (by rw [ByteArray.size_append]; omega) W
    have cT : ∀ W, Calls Tryd.prog 19 #[.string (X ++ S)] W fun e w' => e = .returned (.string ⟨(Dg.sum (X ++ S).toList).toArray⟩) ∧ Below W.heap.size W w' := fun W => Tryd.refSum_any (X ++ S) (by rw [ByteArray.size_append]; omega) W
    have HE : Hid (Dg.sum (X ++ S).toList = mac key.toList b.toList) := (by
      show _ = _
      unfold mac
      rw [Dg.app_list, hXl, hS, Dg.of_list (Dg.sum (Y ++ b).toList), Dg.app_list, hYl])
    clear hX hY hS hkl hXl hYl
    go_wp2_with (first
      | (go_at_call 20; refine (c92 _).mono ?_; clear c92; rintro z w2 ⟨rfl, hb2⟩; have HB2 : Hid _ := hb2; clear hb2)
      | (go_at_call 20; refine (c54 _).mono ?_; clear c54; rintro z w3 ⟨rfl, hb3⟩; have HB3 : Hid _ := hb3; clear hb3)
      | (go_at_call 19; refine (cS _).mono ?_; clear cS; rintro z w4 ⟨rfl, hb4⟩; have HB4 : Hid _ := hb4; clear hb4)
      | (go_at_call 19; refine (cT _).mono ?_; clear cT; rintro z w5 ⟨rfl, hb5⟩; have HB5 : Hid _ := hb5; clear hb5)
      | fail)
    go_ret
    refine ⟨by rw [← HE.out]; rfl, ?_⟩
    have b1 := HB1.out
    have b2 := b1.trans (HB2.out.mono b1.size)
    have b3 := b2.trans (HB3.out.mono b2.size)
    have b4 := b3.trans (HB4.out.mono b3.size)
    exact b4.trans (HB5.out.mono b4.size)
end Go.Proofs
