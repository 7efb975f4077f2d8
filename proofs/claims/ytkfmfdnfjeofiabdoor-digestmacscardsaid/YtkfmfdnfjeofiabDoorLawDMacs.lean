/-
  DigestMacs, walked.
-/
import Derived.Test.YtkfmfdnfjeofiabDoorIv
import Derived.Deep.RegionHeld3
namespace Go.Proofs
open Go.RowKit Go.Wi Go.Dg
theorem Dg.ob_first {w : World} {B g N : Nat} {l r : List UInt8} (h : Ob w B (.slice (some ⟨g, 0, none⟩) N N) (l ++ r)) : Ob w B (.slice (some ⟨g, 0, none⟩) l.length N) l := by
  have h1 := Ob.take h l.length (by rw [List.length_append]; omega)
  rwa [List.take_left] at h1
theorem Dg.bs_none (w : World) : Bs w (.slice none 0 0) [] := ⟨none, 0, rfl, Nat.le_refl _, fun _ => rfl, .inl rfl⟩
theorem Dg.nilText2 : (⟨#[]⟩ : ByteArray).toList = [] := by rw [ByteArray.toList_eq]
/-- Key and bytes that were lent, and sums that were told. -/
structure Tryd.Mb (w0 : World) (gk gb nk nb N M : Nat) (K B : List UInt8) (rs : List (Nat × List UInt8)) (w : World) : Prop where
  b : Below w0.heap.size w0 w
  t : Tryd.Tq w
  k : Ob w w0.heap.size (.slice (some ⟨gk, 0, none⟩) nk N) K
  m : Ob w w0.heap.size (.slice (some ⟨gb, 0, none⟩) nb M) B
  ne : gk ≠ gb
  fl : 2 ≤ w0.heap.size
  r : ∀ x ∈ rs, Dg.Br 25 w x.1 x.2 ∧ x.1 ≠ gk ∧ x.1 ≠ gb
theorem Tryd.Mb.below {w0 w w' : World} {gk gb nk nb N M : Nat} {K B : List UInt8} {rs : List (Nat × List UInt8)} (h : Tryd.Mb w0 gk gb nk nb N M K B rs w) (g : Below w.heap.size w w') : Tryd.Mb w0 gk gb nk nb N M K B rs w' :=
  ⟨h.b.trans (g.mono h.b.size), h.t.below g h.t.sz, Ob.below h.k g (Nat.le_refl _), Ob.below h.m g (Nat.le_refl _), h.ne, h.fl, fun x hx => ⟨(h.r x hx).1.keep (g.block _ (h.r x hx).1.lt), (h.r x hx).2⟩⟩
theorem Tryd.Mb.drewN {w0 w : World} {gk gb nk nb N M : Nat} {K B : List UInt8} {rs : List (Nat × List UInt8)} (h : Tryd.Mb w0 gk gb nk nb N M K B rs w) (n : Nat) : Tryd.Mb w0 gk gb nk nb N M K B rs (w.drewN n) :=
  ⟨belowN h.b n, h.t.drewN n, h.k, h.m, h.ne, h.fl, h.r⟩
theorem Tryd.Mb.add {w0 w : World} {gk gb nk nb N M : Nat} {K B : List UInt8} {rs : List (Nat × List UInt8)} (h : Tryd.Mb w0 gk gb nk nb N M K B rs w) (D : List UInt8) : Tryd.Mb w0 gk gb nk nb N M K B ((w.heap.size, D) :: rs) (w.alloc (.cells (Lib.byteCells D).toArray 25)) := by
  have h1 := h.below ((Below.refl w.heap.size w).alloc (Nat.le_refl _) (.cells (Lib.byteCells D).toArray 25))
  refine ⟨h1.b, h1.t, h1.k, h1.m, h1.ne, h1.fl, fun x hx => ?_⟩
  rcases List.mem_cons.1 hx with rfl | hx
  · have hk := (Ob.lt h.k gk rfl).2
    have hm := (Ob.lt h.m gb rfl).2
    exact ⟨heap_alloc_new w _, by show w.heap.size ≠ gk; omega, by show w.heap.size ≠ gb; omega⟩
  · exact h1.r x hx
theorem Tryd.Mb.turnB {w0 w w' : World} {gk gb nk nb N M : Nat} {K B B' : List UInt8} {rs : List (Nat × List UInt8)} (h : Tryd.Mb w0 gk gb nk nb N M K B rs w) (ho : Ob w' w0.heap.size (.slice (some ⟨gb, 0, none⟩) nb M) B') (hw : Wo (fun k => k = gb) w w') : Tryd.Mb w0 gk gb nk nb N M K B' rs w' := by
  have hb := (Ob.lt h.m gb rfl).1
  refine ⟨Wo.toBelow h.b hw (fun k e => by rw [e]; exact hb) h.b.size, h.t.keep hw.size fun k hk => hw.block k (by have := h.t.sz; omega) (by have := h.fl; omega), Ob.keep h.k fun k e => by cases e; exact hw.block _ (Ob.lt h.k gk rfl).2 h.ne, ho, h.ne, h.fl, fun x hx => ⟨(h.r x hx).1.keep (hw.block _ (h.r x hx).1.lt (h.r x hx).2.2), (h.r x hx).2⟩⟩
theorem Tryd.Mb.turnK {w0 w w' : World} {gk gb nk nb N M : Nat} {K B K' : List UInt8} {rs : List (Nat × List UInt8)} (h : Tryd.Mb w0 gk gb nk nb N M K B rs w) (ho : Ob w' w0.heap.size (.slice (some ⟨gk, 0, none⟩) nk N) K') (hw : Wo (fun k => k = gk) w w') : Tryd.Mb w0 gk gb nk nb N M K' B rs w' := by
  have hb := (Ob.lt h.k gk rfl).1
  refine ⟨Wo.toBelow h.b hw (fun k e => by rw [e]; exact hb) h.b.size, h.t.keep hw.size fun k hk => hw.block k (by have := h.t.sz; omega) (by have := h.fl; omega), ho, Ob.keep h.m fun k e => by cases e; exact hw.block _ (Ob.lt h.m gb rfl).2 (Ne.symm h.ne), h.ne, h.fl, fun x hx => ⟨(h.r x hx).1.keep (hw.block _ (h.r x hx).1.lt (h.r x hx).2.1), (h.r x hx).2⟩⟩
theorem Tryd.Mb.put {w0 w w' : World} {gk gb nk nb N M g : Nat} {K B D : List UInt8} {rs : List (Nat × List UInt8)} (h : Tryd.Mb w0 gk gb nk nb N M K B rs w) (hg : w.heap.size ≤ g) (hw : Wo (fun k => k = g) w w') (hb : Dg.Br 25 w' g D) : Tryd.Mb w0 gk gb nk nb N M K B ((g, D) :: rs) w' := by
  have hk := (Ob.lt h.k gk rfl).2
  have hm := (Ob.lt h.m gb rfl).2
  have hs := h.b.size
  refine ⟨Wo.toBelow h.b hw (fun k e => by rw [e]; omega) h.b.size, h.t.keep hw.size fun k hk => hw.block k (by have := h.t.sz; omega) (by have := h.t.sz; omega), Ob.keep h.k fun k e => by cases e; exact hw.block _ hk (by show gk ≠ g; omega), Ob.keep h.m fun k e => by cases e; exact hw.block _ hm (by show gb ≠ g; omega), h.ne, h.fl, fun x hx => ?_⟩
  rcases List.mem_cons.1 hx with rfl | hx
  · exact ⟨hb, by show g ≠ gk; omega, by show g ≠ gb; omega⟩
  · have h1 := (h.r x hx).1.lt
    exact ⟨(h.r x hx).1.keep (hw.block _ h1 (by omega)), (h.r x hx).2⟩
theorem Dg.below_late {w v : World} {o : Obj} (h : Below (w.alloc o).drew.heap.size (w.alloc o).drew v) : Below w.drew.heap.size w.drew v := by
  have h1 := (Below.refl w.heap.size w).alloc (Nat.le_refl _) o
  have h2 : w.heap.size ≤ (w.alloc o).heap.size := h1.size
  exact ⟨h.os.trans h1.os, h.tape.trans h1.tape, h.output.trans h1.output, Nat.le_trans h2 h.size, fun k hk => (h.block k (Nat.lt_of_lt_of_le hk h2)).trans (h1.block k hk)⟩
theorem Dg.there_br {w : World} {g : Nat} {T : TypeId} {l : List UInt8} (h : Dg.Br T w g l) {n : Nat} (hn : n = l.length) : w.there g 0 n := fun j hj => by
  subst hn
  refine ⟨?_, h.frozen _⟩
  rw [h.at, Nat.zero_add, List.getElem?_eq_getElem (by rw [byteCells_len]; exact hj)]
  rfl
theorem Dg.there_new (v : World) (T : TypeId) : (v.alloc (.cells (Lib.byteCells (List.replicate 32 0)).toArray T)).there v.heap.size 0 32 := Dg.there_br (l := List.replicate 32 0) (heap_alloc_new v _) (by simp)
theorem Dg.br_fill {w : World} {g : Nat} {T : TypeId} (h : Dg.Br T w g (List.replicate 32 0)) {D : List UInt8} (hD : D.length = 32) : Dg.Br T (w.setCells g 0 (Lib.byteCells D)) g D := by
  have h1 := h.over D (by simp [hD])
  rw [List.drop_of_length_le (by simp [hD]), List.append_nil] at h1
  exact h1
set_option maxRecDepth 20000 in
set_option maxHeartbeats 1000000 in
theorem Tryd.digestMacsWalk (key : ByteArray) (hk : key.size ≤ 140737488351232) (s : ByteArray) (hs : s.size ≤ 140737488351232) (w : World) (hT : Tryd.Tq w) :
    Calls Tryd.prog 3 #[.string key, .string s] w fun e w' => e = .returned (.bool true) ∧ Below w.heap.size w w' := by
  have HT : Hid _ := hT
  have hsh := Tryd.shown_any w hT
  obtain ⟨T, hT2⟩ : ∃ T, T = s.toList.map (· + 1) := ⟨_, rfl⟩
  have HT2 : Hid (T = s.toList.map (· + 1)) := hT2
  obtain ⟨U, hU⟩ : ∃ U, U = key.toList.map (· + 1) := ⟨_, rfl⟩
  have HU : Hid (U = key.toList.map (· + 1)) := hU
  obtain ⟨D, hD⟩ : ∃ D, D = Dg.mac key.toList s.toList := ⟨_, rfl⟩
  have hDl : D.length = 32 := by rw [hD]; exact Dg.mac_len _ _
  have lD : (Lib.byteCells D).length = 32 := by rw [byteCells_len]; exact hDl
  have HD : Hid (D = Dg.mac key.toList s.toList) := hD
  obtain ⟨E, hE⟩ : ∃ E, E = Dg.mac key.toList T := ⟨_, rfl⟩
  have hEl : E.length = 32 := by rw [hE]; exact Dg.mac_len _ _
  have lE : (Lib.byteCells E).length = 32 := by rw [byteCells_len]; exact hEl
  have HE : Hid (E = Dg.mac key.toList T) := hE
  obtain ⟨F, hF⟩ : ∃ F, F = Dg.mac U T := ⟨_, rfl⟩
  have hFl : F.length = 32 := by rw [hF]; exact Dg.mac_len _ _
  have lF : (Lib.byteCells F).length = 32 := by rw [byteCells_len]; exact hFl
  have HF : Hid (F = Dg.mac U T) := hF
  obtain ⟨O, hO⟩ : ∃ O, O = Dg.mac [] T := ⟨_, rfl⟩
  have hOl : O.length = 32 := by rw [hO]; exact Dg.mac_len _ _
  have lO : (Lib.byteCells O).length = 32 := by rw [byteCells_len]; exact hOl
  have HO : Hid (O = Dg.mac [] T) := hO
  obtain ⟨P, hP⟩ : ∃ P, P = Dg.mac U [] := ⟨_, rfl⟩
  have hPl : P.length = 32 := by rw [hP]; exact Dg.mac_len _ _
  have lP : (Lib.byteCells P).length = 32 := by rw [byteCells_len]; exact hPl
  have HP : Hid (P = Dg.mac U []) := hP
  obtain ⟨N, hN⟩ : ∃ N, N = key.size + 80 := ⟨_, rfl⟩
  have HN : Hid (N = key.size + 80) := hN
  obtain ⟨M, hM⟩ : ∃ M, M = s.size + 80 := ⟨_, rfl⟩
  have HM : Hid (M = s.size + 80) := hM
  have Hkl : Hid (key.toList.length = key.size) := Dg.list_len key
  have Hsl : Hid (s.toList.length = s.size) := Dg.list_len s
  have HTl : Hid (T.length = s.size) := (by show _ = _; rw [hT2, List.length_map]; exact Dg.list_len s)
  have HUl : Hid (U.length = key.size) := (by show _ = _; rw [hU, List.length_map]; exact Dg.list_len key)
  have q1 : (key.size : Int) ≤ (N : Int) := by omega
  have q2 : (0 : Int) ≤ (key.size : Int) := by omega
  have q3 : (s.size : Int) ≤ (M : Int) := by omega
  have q4 : (0 : Int) ≤ (s.size : Int) := by omega
  have q5 : ¬ N = 0 := by omega
  have q6 : ¬ M = 0 := by omega
  clear hT hN hM hT2 hU hD hE hF hO hP
  go_enter Tryd.func3, Tryd.ntmps3
  go_upto_region 5 with (first
    | (go_at_call 4; refine hsh.mono ?_; clear hsh; rintro z w1 ⟨rfl, hb1⟩; have HB1 : Hid _ := hb1; clear hb1; have hle := Tryd.lent_any key (by omega) w1; rw [← HN.out] at hle)
    | (go_at_call 5; refine hle.mono ?_; clear hle; rintro z w2 ⟨rfl, ho2, hb2⟩; have H2 : Hid (Ob w2 w1.heap.size (.slice (some ⟨w1.heap.size, 0, none⟩) N N) (key.toList ++ List.replicate 80 201) ∧ Below w1.heap.size w1 w2) := ⟨ho2, hb2⟩; clear ho2 hb2)
    | fail)
  have hle := Tryd.lent_any s (by omega) w2
  rw [← HM.out] at hle
  go_upto_region 6 with (first
    | (go_at_call 5; refine hle.mono ?_; clear hle; rintro z w3 ⟨rfl, ho3, hb3⟩; have H3 : Hid (Ob w3 w2.heap.size (.slice (some ⟨w2.heap.size, 0, none⟩) M M) (s.toList ++ List.replicate 80 201) ∧ Below w2.heap.size w2 w3) := ⟨ho3, hb3⟩; clear ho3 hb3)
    | fail)
  have HX : Hid (Tryd.Mb w w1.heap.size w2.heap.size key.size s.size N M key.toList s.toList [] w3 ∧ Ob w3 w.heap.size (.slice (some ⟨w1.heap.size, 0, none⟩) N N) (key.toList ++ List.replicate 80 201) ∧ Ob w3 w.heap.size (.slice (some ⟨w2.heap.size, 0, none⟩) M M) (s.toList ++ List.replicate 80 201)) := by
    have hb := HB1.out.trans (H2.out.2.mono HB1.out.size)
    have hb2 := hb.trans (H3.out.2.mono hb.size)
    have o1 := Ob.mono (Ob.below H2.out.1 H3.out.2 (Nat.le_refl _)) HB1.out.size
    have o2 := Ob.mono H3.out.1 hb.size
    have f1 := Dg.ob_first o1
    have f2 := Dg.ob_first o2
    rw [Hkl.out] at f1
    rw [Hsl.out] at f2
    have h1 := (Ob.lt H2.out.1 w1.heap.size rfl).2
    exact ⟨⟨hb2, HT.out.below hb2 HT.out.sz, f1, f2, by omega, HT.out.sz, fun x hx => by cases hx⟩, o1, o2⟩
  clear H2 H3 HB1
  generalize w1.heap.size = gk at *
  generalize w2.heap.size = gb at *
  have hm4 : ∀ Z, Hid (Tryd.Mb w gk gb key.size s.size N M key.toList s.toList [] Z) → Calls Tryd.prog 6 #[.slice (some ⟨gk, 0, none⟩) key.size N, .slice (some ⟨gb, 0, none⟩) s.size M] Z fun e w' => e = .returned (.agg (Lib.byteCells D).toArray) ∧ Below Z.heap.size Z w' := fun Z hZ => by
    have h1 := Tryd.mac_any (w := Z) hZ.out.t (Ob.bs hZ.out.k) (fun k e => (Ob.lt hZ.out.k k e).2) (by rw [Hkl.out]; omega) (Ob.bs hZ.out.m) (fun k e => (Ob.lt hZ.out.m k e).2) (by rw [Hsl.out]; omega)
    rw [← HD.out] at h1
    exact h1
  have HZ1 : Hid (Tryd.Mb w gk gb key.size s.size N M key.toList s.toList [] w3.drew) := HX.out.1.drewN 1
  have HZ2 : Hid (Tryd.Mb w gk gb key.size s.size N M key.toList s.toList [] (w3.alloc (.cells (Lib.byteCells (List.replicate 32 0)).toArray 25)).drew) := (HX.out.1.below ((Below.refl _ w3).alloc (Nat.le_refl _) _)).drewN 1
  have HZ3 : Hid (Tryd.Mb w gk gb key.size s.size N M key.toList s.toList ((w3.heap.size, List.replicate 32 0) :: []) (w3.alloc (.cells (Lib.byteCells (List.replicate 32 0)).toArray 25)).drew) := (HX.out.1.add _).drewN 1
  go_upto_region 6 with (fail)
  go_cut [8] (fun v wx => ∃ gZ, v = .pointer (some ⟨gZ, 0, none⟩) ∧ Hid (Tryd.Mb w gk gb key.size s.size N M key.toList s.toList ((gZ, D) :: []) wx ∧ Ob wx w.heap.size (.slice (some ⟨gk, 0, none⟩) N N) (key.toList ++ List.replicate 80 201) ∧ Ob wx w.heap.size (.slice (some ⟨gb, 0, none⟩) M M) (s.toList ++ List.replicate 80 201)))
  case first =>
    have hone : ∀ v ∈ Lib.byteCells D, v.oneCell' = true := fun v hv => by
      simp only [Lib.byteCells, List.mem_map] at hv
      obtain ⟨x, _, rfl⟩ := hv
      rfl
    have hinf : (Tryd.prog.info? 25).map (fun x => x.size) = some 32 := by kernel_rfl
    go_region_held3 (fun _ => True) (trivial) (first
      | (go_at_call 6; refine (hm4 _ HZ1).mono ?_; rintro z v4 ⟨rfl, hv4⟩; have HV4 : Hid (Below w3.drew.heap.size w3.drew v4) := hv4; clear hv4; have th := Dg.there_new v4 25)
      | (go_at_call 6; refine (hm4 _ HZ2).mono ?_; rintro z v4 ⟨rfl, hv4⟩; have HU4 : Hid (Tryd.Mb w gk gb key.size s.size N M key.toList s.toList ((w3.heap.size, List.replicate 32 0) :: []) v4) := HZ3.out.below hv4; have HV4 : Hid (Below w3.drew.heap.size w3.drew v4) := Dg.below_late hv4; clear hv4; have th : v4.there w3.heap.size 0 32 := Dg.there_br (n := 32) (HU4.out.r _ (List.mem_cons_self)).1 (by simp))
      | fail)
    · go_wp2_with (fail)
      go_meet
      case rel =>
        have o1 : Wo (fun k => k = v4.heap.size) v4 ((v4.alloc (.cells (Lib.byteCells (List.replicate 32 0)).toArray 25)).setCells v4.heap.size 0 (Lib.byteCells D)) := ((Wo.refl _ v4).alloc _).trans (Dg.setCells_wo _ _ _ _)
        have hb : Dg.Br 25 ((v4.alloc (.cells (Lib.byteCells (List.replicate 32 0)).toArray 25)).setCells v4.heap.size 0 (Lib.byteCells D)) v4.heap.size D := Dg.br_fill (heap_alloc_new v4 _) hDl
        exact ⟨_, rfl, (HZ1.out.below HV4.out).put (Nat.le_refl _) o1 hb, Ob.keep (Ob.below (Ob.drew HX.out.2.1) HV4.out (Nat.le_refl _)) (fun k e => o1.block k (Ob.lt (Ob.below (Ob.drew HX.out.2.1) HV4.out (Nat.le_refl _)) k e).2 (by have := (Ob.lt (Ob.below (Ob.drew HX.out.2.1) HV4.out (Nat.le_refl _)) k e).2; omega)), Ob.keep (Ob.below (Ob.drew HX.out.2.2) HV4.out (Nat.le_refl _)) (fun k e => o1.block k (Ob.lt (Ob.below (Ob.drew HX.out.2.2) HV4.out (Nat.le_refl _)) k e).2 (by have := (Ob.lt (Ob.below (Ob.drew HX.out.2.2) HV4.out (Nat.le_refl _)) k e).2; omega))⟩
    · go_wp2_with (fail)
      go_meet
      case rel =>
        have o1 : Wo (fun k => k = w3.heap.size) w3.drew (v4.setCells w3.heap.size 0 (Lib.byteCells D)) := (Wo.ofBelow (own := fun k => k = w3.heap.size) HV4.out).trans (Dg.setCells_wo _ _ _ _)
        have hb : Dg.Br 25 (v4.setCells w3.heap.size 0 (Lib.byteCells D)) w3.heap.size D := Dg.br_fill (HU4.out.r _ (List.mem_cons_self)).1 hDl
        exact ⟨_, rfl, HZ1.out.put (Nat.le_refl _) o1 hb, Ob.keep HX.out.2.1 (fun k e => o1.block k (Ob.lt HX.out.2.1 k e).2 (by have := (Ob.lt HX.out.2.1 k e).2; omega)), Ob.keep HX.out.2.2 (fun k e => o1.block k (Ob.lt HX.out.2.2 k e).2 (by have := (Ob.lt HX.out.2.2 k e).2; omega))⟩
  obtain ⟨gD, rfl, HM4⟩ := hcut
  clear hm4 HZ1 HZ2 HZ3
  generalize wc = x4 at *
  have HF5 : Hid _ := HM4.out.2
  have HMa : Hid _ := HM4.out.1
  clear HX HM4
  have Hlk : Hid ((key.toList ++ List.replicate 80 201).length = N) := (by show _ = _; rw [List.length_append, List.length_replicate, Hkl.out, HN.out])
  have Hlm : Hid ((s.toList ++ List.replicate 80 201).length = M) := (by show _ = _; rw [List.length_append, List.length_replicate, Hsl.out, HM.out])
  have hst := Tryd.still_any (w := x4) (B := w.heap.size) (g := gk) (cap := N) (s := key) (l := key.toList ++ List.replicate 80 201) 80 rfl (by rw [Hlk.out]; exact HF5.out.1) (by rw [Hlk.out, HN.out]; omega)
  rw [Hlk.out] at hst
  go_upto_region 8 with (first | (go_at_call 7; refine hst.mono ?_; clear hst; rintro z y5 ⟨rfl, m5, rfl⟩) | fail)
  have hst := Tryd.still_any (w := x4.drewN m5) (B := w.heap.size) (g := gb) (cap := M) (s := s) (l := s.toList ++ List.replicate 80 201) 80 rfl (by rw [Hlm.out]; exact HF5.out.2) (by rw [Hlm.out, HM.out]; omega)
  rw [Hlm.out] at hst
  go_upto_region 9 with (first | (go_at_call 7; refine hst.mono ?_; clear hst; rintro z y6 ⟨rfl, m6, rfl⟩) | fail)
  have HM6 : Hid _ := HMa.out.drewN (m5 + m6)
  clear HF5 HMa
  generalize x4.drewN (m5 + m6) = x6 at *
  have htu := Tryd.lturned_any (w := x6) (B := w.heap.size) (g := gb) (cap := M) (l := s.toList) (by rw [Hsl.out]; exact HM6.out.m) (by rw [Hsl.out]; omega)
  rw [← HT2.out, Hsl.out] at htu
  go_upto_region 10 with (first | (go_at_call 8; refine htu.mono ?_; clear htu; rintro z x7 ⟨rfl, ho7, hw7⟩; have HM7 : Hid _ := HM6.out.turnB ho7 hw7; clear ho7 hw7) | fail)
  clear HM6
  have hm8 : ∀ Z, Hid (Tryd.Mb w gk gb key.size s.size N M key.toList T [(gD, D)] Z) → Calls Tryd.prog 6 #[.slice (some ⟨gk, 0, none⟩) key.size N, .slice (some ⟨gb, 0, none⟩) s.size M] Z fun e w' => e = .returned (.agg (Lib.byteCells E).toArray) ∧ Below Z.heap.size Z w' := fun Z hZ => by
    have h1 := Tryd.mac_any (w := Z) hZ.out.t (Ob.bs hZ.out.k) (fun k e => (Ob.lt hZ.out.k k e).2) (by rw [Hkl.out]; omega) (Ob.bs hZ.out.m) (fun k e => (Ob.lt hZ.out.m k e).2) (by rw [HTl.out]; omega)
    rw [← HE.out] at h1
    exact h1
  have HZ1 : Hid (Tryd.Mb w gk gb key.size s.size N M key.toList T [(gD, D)] x7.drew) := HM7.out.drewN 1
  have HZ2 : Hid (Tryd.Mb w gk gb key.size s.size N M key.toList T [(gD, D)] (x7.alloc (.cells (Lib.byteCells (List.replicate 32 0)).toArray 25)).drew) := (HM7.out.below ((Below.refl _ x7).alloc (Nat.le_refl _) _)).drewN 1
  have HZ3 : Hid (Tryd.Mb w gk gb key.size s.size N M key.toList T ((x7.heap.size, List.replicate 32 0) :: [(gD, D)]) (x7.alloc (.cells (Lib.byteCells (List.replicate 32 0)).toArray 25)).drew) := (HM7.out.add _).drewN 1
  go_upto_region 10 with (fail)
  go_cut [12] (fun v wx => ∃ gZ, v = .pointer (some ⟨gZ, 0, none⟩) ∧ Hid (Tryd.Mb w gk gb key.size s.size N M key.toList T ((gZ, E) :: [(gD, D)]) wx))
  case first =>
    have hone : ∀ v ∈ Lib.byteCells E, v.oneCell' = true := fun v hv => by
      simp only [Lib.byteCells, List.mem_map] at hv
      obtain ⟨x, _, rfl⟩ := hv
      rfl
    have hinf : (Tryd.prog.info? 25).map (fun x => x.size) = some 32 := by kernel_rfl
    go_region_held3 (fun _ => True) (trivial) (first
      | (go_at_call 6; refine (hm8 _ HZ1).mono ?_; rintro z v8 ⟨rfl, hv8⟩; have HV8 : Hid (Below x7.drew.heap.size x7.drew v8) := hv8; clear hv8; have th := Dg.there_new v8 25)
      | (go_at_call 6; refine (hm8 _ HZ2).mono ?_; rintro z v8 ⟨rfl, hv8⟩; have HU8 : Hid (Tryd.Mb w gk gb key.size s.size N M key.toList T ((x7.heap.size, List.replicate 32 0) :: [(gD, D)]) v8) := HZ3.out.below hv8; have HV8 : Hid (Below x7.drew.heap.size x7.drew v8) := Dg.below_late hv8; clear hv8; have th : v8.there x7.heap.size 0 32 := Dg.there_br (n := 32) (HU8.out.r _ (List.mem_cons_self)).1 (by simp))
      | fail)
    · go_wp2_with (fail)
      go_meet
      case rel =>
        have o1 : Wo (fun k => k = v8.heap.size) v8 ((v8.alloc (.cells (Lib.byteCells (List.replicate 32 0)).toArray 25)).setCells v8.heap.size 0 (Lib.byteCells E)) := ((Wo.refl _ v8).alloc _).trans (Dg.setCells_wo _ _ _ _)
        have hb : Dg.Br 25 ((v8.alloc (.cells (Lib.byteCells (List.replicate 32 0)).toArray 25)).setCells v8.heap.size 0 (Lib.byteCells E)) v8.heap.size E := Dg.br_fill (heap_alloc_new v8 _) hEl
        exact ⟨_, rfl, (HZ1.out.below HV8.out).put (Nat.le_refl _) o1 hb⟩
    · go_wp2_with (fail)
      go_meet
      case rel =>
        have o1 : Wo (fun k => k = x7.heap.size) x7.drew (v8.setCells x7.heap.size 0 (Lib.byteCells E)) := (Wo.ofBelow (own := fun k => k = x7.heap.size) HV8.out).trans (Dg.setCells_wo _ _ _ _)
        have hb : Dg.Br 25 (v8.setCells x7.heap.size 0 (Lib.byteCells E)) x7.heap.size E := Dg.br_fill (HU8.out.r _ (List.mem_cons_self)).1 hEl
        exact ⟨_, rfl, HZ1.out.put (Nat.le_refl _) o1 hb⟩
  obtain ⟨gE, rfl, HM8⟩ := hcut
  clear hm8 HZ1 HZ2 HZ3
  generalize wc = x8 at *
  clear HM7
  have htu := Tryd.lturned_any (w := x8) (B := w.heap.size) (g := gk) (cap := N) (l := key.toList) (by rw [Hkl.out]; exact HM8.out.k) (by rw [Hkl.out]; omega)
  rw [← HU.out, Hkl.out] at htu
  go_upto_region 12 with (first | (go_at_call 8; refine htu.mono ?_; clear htu; rintro z x9 ⟨rfl, ho9, hw9⟩; have HM9 : Hid _ := HM8.out.turnK ho9 hw9; clear ho9 hw9) | fail)
  clear HM8
  have hm10 : ∀ Z, Hid (Tryd.Mb w gk gb key.size s.size N M U T [(gE, E), (gD, D)] Z) → Calls Tryd.prog 6 #[.slice (some ⟨gk, 0, none⟩) key.size N, .slice (some ⟨gb, 0, none⟩) s.size M] Z fun e w' => e = .returned (.agg (Lib.byteCells F).toArray) ∧ Below Z.heap.size Z w' := fun Z hZ => by
    have h1 := Tryd.mac_any (w := Z) hZ.out.t (Ob.bs hZ.out.k) (fun k e => (Ob.lt hZ.out.k k e).2) (by rw [HUl.out]; omega) (Ob.bs hZ.out.m) (fun k e => (Ob.lt hZ.out.m k e).2) (by rw [HTl.out]; omega)
    rw [← HF.out] at h1
    exact h1
  have HZ1 : Hid (Tryd.Mb w gk gb key.size s.size N M U T [(gE, E), (gD, D)] x9.drew) := HM9.out.drewN 1
  have HZ2 : Hid (Tryd.Mb w gk gb key.size s.size N M U T [(gE, E), (gD, D)] (x9.alloc (.cells (Lib.byteCells (List.replicate 32 0)).toArray 25)).drew) := (HM9.out.below ((Below.refl _ x9).alloc (Nat.le_refl _) _)).drewN 1
  have HZ3 : Hid (Tryd.Mb w gk gb key.size s.size N M U T ((x9.heap.size, List.replicate 32 0) :: [(gE, E), (gD, D)]) (x9.alloc (.cells (Lib.byteCells (List.replicate 32 0)).toArray 25)).drew) := (HM9.out.add _).drewN 1
  go_upto_region 12 with (fail)
  go_cut [14] (fun v wx => ∃ gZ, v = .pointer (some ⟨gZ, 0, none⟩) ∧ Hid (Tryd.Mb w gk gb key.size s.size N M U T ((gZ, F) :: [(gE, E), (gD, D)]) wx))
  case first =>
    have hone : ∀ v ∈ Lib.byteCells F, v.oneCell' = true := fun v hv => by
      simp only [Lib.byteCells, List.mem_map] at hv
      obtain ⟨x, _, rfl⟩ := hv
      rfl
    have hinf : (Tryd.prog.info? 25).map (fun x => x.size) = some 32 := by kernel_rfl
    go_region_held3 (fun _ => True) (trivial) (first
      | (go_at_call 6; refine (hm10 _ HZ1).mono ?_; rintro z v10 ⟨rfl, hv10⟩; have HV10 : Hid (Below x9.drew.heap.size x9.drew v10) := hv10; clear hv10; have th := Dg.there_new v10 25)
      | (go_at_call 6; refine (hm10 _ HZ2).mono ?_; rintro z v10 ⟨rfl, hv10⟩; have HU10 : Hid (Tryd.Mb w gk gb key.size s.size N M U T ((x9.heap.size, List.replicate 32 0) :: [(gE, E), (gD, D)]) v10) := HZ3.out.below hv10; have HV10 : Hid (Below x9.drew.heap.size x9.drew v10) := Dg.below_late hv10; clear hv10; have th : v10.there x9.heap.size 0 32 := Dg.there_br (n := 32) (HU10.out.r _ (List.mem_cons_self)).1 (by simp))
      | fail)
    · go_wp2_with (fail)
      go_meet
      case rel =>
        have o1 : Wo (fun k => k = v10.heap.size) v10 ((v10.alloc (.cells (Lib.byteCells (List.replicate 32 0)).toArray 25)).setCells v10.heap.size 0 (Lib.byteCells F)) := ((Wo.refl _ v10).alloc _).trans (Dg.setCells_wo _ _ _ _)
        have hb : Dg.Br 25 ((v10.alloc (.cells (Lib.byteCells (List.replicate 32 0)).toArray 25)).setCells v10.heap.size 0 (Lib.byteCells F)) v10.heap.size F := Dg.br_fill (heap_alloc_new v10 _) hFl
        exact ⟨_, rfl, (HZ1.out.below HV10.out).put (Nat.le_refl _) o1 hb⟩
    · go_wp2_with (fail)
      go_meet
      case rel =>
        have o1 : Wo (fun k => k = x9.heap.size) x9.drew (v10.setCells x9.heap.size 0 (Lib.byteCells F)) := (Wo.ofBelow (own := fun k => k = x9.heap.size) HV10.out).trans (Dg.setCells_wo _ _ _ _)
        have hb : Dg.Br 25 (v10.setCells x9.heap.size 0 (Lib.byteCells F)) x9.heap.size F := Dg.br_fill (HU10.out.r _ (List.mem_cons_self)).1 hFl
        exact ⟨_, rfl, HZ1.out.put (Nat.le_refl _) o1 hb⟩
  obtain ⟨gF, rfl, HM10⟩ := hcut
  clear hm10 HZ1 HZ2 HZ3
  generalize wc = x10 at *
  clear HM9
  have hm11 := Tryd.mac_any (w := x10) HM10.out.t (Dg.bs_none _) (fun k e => by cases e) (by decide) (Ob.bs HM10.out.m) (fun k e => (Ob.lt HM10.out.m k e).2) (by rw [HTl.out]; omega)
  rw [← HO.out] at hm11
  go_wp2_with (fail)
  refine hm11.mono ?_
  clear hm11
  rintro z v11 ⟨rfl, hv11⟩
  have HV11 : Hid _ := HM10.out.below hv11
  have st11 := Tryd.new32 v11 O hOl
  clear hv11
  go_upto_region 14 with (fail)
  obtain ⟨x11, hx11⟩ : ∃ x11, x11 = v11.alloc (.cells (Lib.byteCells O).toArray 25) := ⟨_, rfl⟩
  have HM11 : Hid _ := HV11.out.add O
  rw [← hx11] at HM11 ⊢
  clear hx11 st11 HV11 HM10
  generalize v11.heap.size = gO at *
  have hm12 := Tryd.mac_any (w := x11) HM11.out.t (Ob.bs HM11.out.k) (fun k e => (Ob.lt HM11.out.k k e).2) (by rw [HUl.out]; omega) (Dg.bs_none _) (fun k e => by cases e) (by decide)
  rw [← HP.out] at hm12
  go_wp2_with (fail)
  refine hm12.mono ?_
  clear hm12
  rintro z v12 ⟨rfl, hv12⟩
  have HV12 : Hid _ := HM11.out.below hv12
  have st12 := Tryd.new32 v12 P hPl
  clear hv12
  go_upto_region 15 with (fail)
  obtain ⟨x12, hx12⟩ : ∃ x12, x12 = v12.alloc (.cells (Lib.byteCells P).toArray 25) := ⟨_, rfl⟩
  have HM12 : Hid _ := HV12.out.add P
  rw [← hx12] at HM12 ⊢
  clear hx12 st12 HV12 HM11
  generalize v12.heap.size = gP at *
  have kP : ∀ W, Below x12.heap.size x12 W → Dg.Br 25 W gP P := fun W hW => ((HM12.out.below hW).r (gP, P) (List.mem_of_getElem? (i := 0) rfl)).1
  have kO : ∀ W, Below x12.heap.size x12 W → Dg.Br 25 W gO O := fun W hW => ((HM12.out.below hW).r (gO, O) (List.mem_of_getElem? (i := 1) rfl)).1
  have kF : ∀ W, Below x12.heap.size x12 W → Dg.Br 25 W gF F := fun W hW => ((HM12.out.below hW).r (gF, F) (List.mem_of_getElem? (i := 2) rfl)).1
  have kE : ∀ W, Below x12.heap.size x12 W → Dg.Br 25 W gE E := fun W hW => ((HM12.out.below hW).r (gE, E) (List.mem_of_getElem? (i := 3) rfl)).1
  have kD : ∀ W, Below x12.heap.size x12 W → Dg.Br 25 W gD D := fun W hW => ((HM12.out.below hW).r (gD, D) (List.mem_of_getElem? (i := 4) rfl)).1
  refine wp_region_quiet (C := fun W => Below x12.heap.size x12 W) (by kernel_rfl) (by kernel_rfl) ⟨rfl, rfl, rfl, Nat.le_refl _, fun _ _ => rfl⟩ ?_
  dsimp only
  refine Go.Lq.q_valW (v := .bool true) (by kernel_rfl) (fun _ _ => by kernel_rfl) ?_
  try simp only [Act.put, List.setIfInBounds_toArray, List.set_cons_zero, List.set_cons_succ]
  refine Go.Lq.q_valW (v := .bool true) (by kernel_rfl) (fun _ _ => by kernel_rfl) ?_
  try simp only [Act.put, List.setIfInBounds_toArray, List.set_cons_zero, List.set_cons_succ]
  refine Go.Lq.q_valW (v := .slice (some ⟨gO, 0, none⟩) 32 32) (by kernel_rfl) (fun W _ => by have sl := Tryd.sl32 gO W; exact Dg.run_sl0 rfl rfl sl) ?_
  try simp only [Act.put, List.setIfInBounds_toArray, List.set_cons_zero, List.set_cons_succ]
  refine Go.Lq.q_valW (v := .string ⟨O.toArray⟩) (by kernel_rfl) (fun W hW => by have cv := Tryd.str32 (kO W (hW)) hOl; exact Dg.run_conv rfl rfl cv) ?_
  try simp only [Act.put, List.setIfInBounds_toArray, List.set_cons_zero, List.set_cons_succ]
  refine Go.Lq.q_valW (v := .string ⟨T.toArray⟩) (by kernel_rfl) (fun _ _ => by kernel_rfl) ?_
  try simp only [Act.put, List.setIfInBounds_toArray, List.set_cons_zero, List.set_cons_succ]
  refine Go.Lq.q_callW (v := .string ⟨O.toArray⟩) (f := 9) (args := #[.string ⟨#[]⟩, .string ⟨T.toArray⟩]) (by kernel_rfl) (fun _ _ => by kernel_rfl) (fun W hW => ?_) ?_
  · have h1 := Tryd.refMac_any ⟨#[]⟩ ⟨T.toArray⟩ (by decide) (by show T.length ≤ _; rw [HTl.out]; omega) W
    rw [Dg.of_list T, Dg.nilText2, ← HO.out] at h1
    exact h1.mono fun _ _ ⟨h2, h3⟩ => ⟨h2, hW.trans (h3.mono hW.size)⟩
  try simp only [Act.put, List.setIfInBounds_toArray, List.set_cons_zero, List.set_cons_succ]
  refine Go.Lq.q_valW (v := .bool true) (by kernel_rfl) (fun W _ => by go_simp) ?_
  try simp only [Act.put, List.setIfInBounds_toArray, List.set_cons_zero, List.set_cons_succ]
  refine Go.Lq.q_valW (v := .bool true) (by kernel_rfl) (fun _ _ => by kernel_rfl) ?_
  try simp only [Act.put, List.setIfInBounds_toArray, List.set_cons_zero, List.set_cons_succ]
  refine Go.Lq.q_valW (v := .bool true) (by kernel_rfl) (fun _ _ => by kernel_rfl) ?_
  try simp only [Act.put, List.setIfInBounds_toArray, List.set_cons_zero, List.set_cons_succ]
  refine Go.Lq.q_valW (v := .slice (some ⟨gP, 0, none⟩) 32 32) (by kernel_rfl) (fun W _ => by have sl := Tryd.sl32 gP W; exact Dg.run_sl0 rfl rfl sl) ?_
  try simp only [Act.put, List.setIfInBounds_toArray, List.set_cons_zero, List.set_cons_succ]
  refine Go.Lq.q_valW (v := .string ⟨P.toArray⟩) (by kernel_rfl) (fun W hW => by have cv := Tryd.str32 (kP W (hW)) hPl; exact Dg.run_conv rfl rfl cv) ?_
  try simp only [Act.put, List.setIfInBounds_toArray, List.set_cons_zero, List.set_cons_succ]
  refine Go.Lq.q_valW (v := .string ⟨U.toArray⟩) (by kernel_rfl) (fun _ _ => by kernel_rfl) ?_
  try simp only [Act.put, List.setIfInBounds_toArray, List.set_cons_zero, List.set_cons_succ]
  refine Go.Lq.q_callW (v := .string ⟨P.toArray⟩) (f := 9) (args := #[.string ⟨U.toArray⟩, .string ⟨#[]⟩]) (by kernel_rfl) (fun _ _ => by kernel_rfl) (fun W hW => ?_) ?_
  · have h1 := Tryd.refMac_any ⟨U.toArray⟩ ⟨#[]⟩ (by show U.length ≤ _; rw [HUl.out]; omega) (by decide) W
    rw [Dg.of_list U, Dg.nilText2, ← HP.out] at h1
    exact h1.mono fun _ _ ⟨h2, h3⟩ => ⟨h2, hW.trans (h3.mono hW.size)⟩
  try simp only [Act.put, List.setIfInBounds_toArray, List.set_cons_zero, List.set_cons_succ]
  refine Go.Lq.q_valW (v := .bool true) (by kernel_rfl) (fun W _ => by go_simp) ?_
  try simp only [Act.put, List.setIfInBounds_toArray, List.set_cons_zero, List.set_cons_succ]
  refine Go.Lq.q_valW (v := .bool true) (by kernel_rfl) (fun _ _ => by kernel_rfl) ?_
  try simp only [Act.put, List.setIfInBounds_toArray, List.set_cons_zero, List.set_cons_succ]
  refine Go.Lq.q_valW (v := .bool true) (by kernel_rfl) (fun _ _ => by kernel_rfl) ?_
  try simp only [Act.put, List.setIfInBounds_toArray, List.set_cons_zero, List.set_cons_succ]
  refine wpQuiet_nil ?_
  intro W hWx
  have HWx : Hid (Below x12.heap.size x12 W) := hWx
  clear hWx
  go_upto_region 16 with (fail)
  refine wp_region_quiet (C := fun W' => Below W.heap.size W W') (by kernel_rfl) (by kernel_rfl) ⟨rfl, rfl, rfl, Nat.le_refl _, fun _ _ => rfl⟩ ?_
  dsimp only
  refine Go.Lq.q_valW (v := .bool true) (by kernel_rfl) (fun _ _ => by kernel_rfl) ?_
  try simp only [Act.put, List.setIfInBounds_toArray, List.set_cons_zero, List.set_cons_succ]
  refine Go.Lq.q_valW (v := .bool true) (by kernel_rfl) (fun _ _ => by kernel_rfl) ?_
  try simp only [Act.put, List.setIfInBounds_toArray, List.set_cons_zero, List.set_cons_succ]
  refine Go.Lq.q_valW (v := .bool true) (by kernel_rfl) (fun _ _ => by kernel_rfl) ?_
  try simp only [Act.put, List.setIfInBounds_toArray, List.set_cons_zero, List.set_cons_succ]
  refine Go.Lq.q_valW (v := .bool true) (by kernel_rfl) (fun _ _ => by kernel_rfl) ?_
  try simp only [Act.put, List.setIfInBounds_toArray, List.set_cons_zero, List.set_cons_succ]
  refine Go.Lq.q_valW (v := .bool true) (by kernel_rfl) (fun _ _ => by kernel_rfl) ?_
  try simp only [Act.put, List.setIfInBounds_toArray, List.set_cons_zero, List.set_cons_succ]
  refine Go.Lq.q_valW (v := .bool true) (by kernel_rfl) (fun _ _ => by kernel_rfl) ?_
  try simp only [Act.put, List.setIfInBounds_toArray, List.set_cons_zero, List.set_cons_succ]
  refine Go.Lq.q_valW (v := .bool true) (by kernel_rfl) (fun _ _ => by kernel_rfl) ?_
  try simp only [Act.put, List.setIfInBounds_toArray, List.set_cons_zero, List.set_cons_succ]
  refine Go.Lq.q_valW (v := .bool true) (by kernel_rfl) (fun _ _ => by kernel_rfl) ?_
  try simp only [Act.put, List.setIfInBounds_toArray, List.set_cons_zero, List.set_cons_succ]
  refine Go.Lq.q_valW (v := .slice (some ⟨gD, 0, none⟩) 32 32) (by kernel_rfl) (fun W _ => by have sl := Tryd.sl32 gD W; exact Dg.run_sl0 rfl rfl sl) ?_
  try simp only [Act.put, List.setIfInBounds_toArray, List.set_cons_zero, List.set_cons_succ]
  refine Go.Lq.q_valW (v := .string ⟨D.toArray⟩) (by kernel_rfl) (fun W hW => by have cv := Tryd.str32 (kD W (HWx.out.trans (hW.mono HWx.out.size))) hDl; exact Dg.run_conv rfl rfl cv) ?_
  try simp only [Act.put, List.setIfInBounds_toArray, List.set_cons_zero, List.set_cons_succ]
  refine Go.Lq.q_valW (v := .string key) (by kernel_rfl) (fun _ _ => by kernel_rfl) ?_
  try simp only [Act.put, List.setIfInBounds_toArray, List.set_cons_zero, List.set_cons_succ]
  refine Go.Lq.q_valW (v := .string s) (by kernel_rfl) (fun _ _ => by kernel_rfl) ?_
  try simp only [Act.put, List.setIfInBounds_toArray, List.set_cons_zero, List.set_cons_succ]
  refine Go.Lq.q_callW (v := .string ⟨D.toArray⟩) (f := 9) (args := #[.string key, .string s]) (by kernel_rfl) (fun _ _ => by kernel_rfl) (fun W hW => ?_) ?_
  · have h1 := Tryd.refMac_any key s (by omega) (by omega) W
    rw [← HD.out] at h1
    exact h1.mono fun _ _ ⟨h2, h3⟩ => ⟨h2, hW.trans (h3.mono hW.size)⟩
  try simp only [Act.put, List.setIfInBounds_toArray, List.set_cons_zero, List.set_cons_succ]
  refine Go.Lq.q_valW (v := .bool true) (by kernel_rfl) (fun W _ => by go_simp) ?_
  try simp only [Act.put, List.setIfInBounds_toArray, List.set_cons_zero, List.set_cons_succ]
  refine Go.Lq.q_valW (v := .bool true) (by kernel_rfl) (fun _ _ => by kernel_rfl) ?_
  try simp only [Act.put, List.setIfInBounds_toArray, List.set_cons_zero, List.set_cons_succ]
  refine Go.Lq.q_valW (v := .bool true) (by kernel_rfl) (fun _ _ => by kernel_rfl) ?_
  try simp only [Act.put, List.setIfInBounds_toArray, List.set_cons_zero, List.set_cons_succ]
  refine Go.Lq.q_valW (v := .slice (some ⟨gE, 0, none⟩) 32 32) (by kernel_rfl) (fun W _ => by have sl := Tryd.sl32 gE W; exact Dg.run_sl0 rfl rfl sl) ?_
  try simp only [Act.put, List.setIfInBounds_toArray, List.set_cons_zero, List.set_cons_succ]
  refine Go.Lq.q_valW (v := .string ⟨E.toArray⟩) (by kernel_rfl) (fun W hW => by have cv := Tryd.str32 (kE W (HWx.out.trans (hW.mono HWx.out.size))) hEl; exact Dg.run_conv rfl rfl cv) ?_
  try simp only [Act.put, List.setIfInBounds_toArray, List.set_cons_zero, List.set_cons_succ]
  refine Go.Lq.q_valW (v := .string key) (by kernel_rfl) (fun _ _ => by kernel_rfl) ?_
  try simp only [Act.put, List.setIfInBounds_toArray, List.set_cons_zero, List.set_cons_succ]
  refine Go.Lq.q_valW (v := .string ⟨T.toArray⟩) (by kernel_rfl) (fun _ _ => by kernel_rfl) ?_
  try simp only [Act.put, List.setIfInBounds_toArray, List.set_cons_zero, List.set_cons_succ]
  refine Go.Lq.q_callW (v := .string ⟨E.toArray⟩) (f := 9) (args := #[.string key, .string ⟨T.toArray⟩]) (by kernel_rfl) (fun _ _ => by kernel_rfl) (fun W hW => ?_) ?_
  · have h1 := Tryd.refMac_any key ⟨T.toArray⟩ (by omega) (by show T.length ≤ _; rw [HTl.out]; omega) W
    rw [Dg.of_list T, ← HE.out] at h1
    exact h1.mono fun _ _ ⟨h2, h3⟩ => ⟨h2, hW.trans (h3.mono hW.size)⟩
  try simp only [Act.put, List.setIfInBounds_toArray, List.set_cons_zero, List.set_cons_succ]
  refine Go.Lq.q_valW (v := .bool true) (by kernel_rfl) (fun W _ => by go_simp) ?_
  try simp only [Act.put, List.setIfInBounds_toArray, List.set_cons_zero, List.set_cons_succ]
  refine Go.Lq.q_valW (v := .bool true) (by kernel_rfl) (fun _ _ => by kernel_rfl) ?_
  try simp only [Act.put, List.setIfInBounds_toArray, List.set_cons_zero, List.set_cons_succ]
  refine Go.Lq.q_valW (v := .bool true) (by kernel_rfl) (fun _ _ => by kernel_rfl) ?_
  try simp only [Act.put, List.setIfInBounds_toArray, List.set_cons_zero, List.set_cons_succ]
  refine Go.Lq.q_valW (v := .slice (some ⟨gF, 0, none⟩) 32 32) (by kernel_rfl) (fun W _ => by have sl := Tryd.sl32 gF W; exact Dg.run_sl0 rfl rfl sl) ?_
  try simp only [Act.put, List.setIfInBounds_toArray, List.set_cons_zero, List.set_cons_succ]
  refine Go.Lq.q_valW (v := .string ⟨F.toArray⟩) (by kernel_rfl) (fun W hW => by have cv := Tryd.str32 (kF W (HWx.out.trans (hW.mono HWx.out.size))) hFl; exact Dg.run_conv rfl rfl cv) ?_
  try simp only [Act.put, List.setIfInBounds_toArray, List.set_cons_zero, List.set_cons_succ]
  refine Go.Lq.q_valW (v := .string ⟨U.toArray⟩) (by kernel_rfl) (fun _ _ => by kernel_rfl) ?_
  try simp only [Act.put, List.setIfInBounds_toArray, List.set_cons_zero, List.set_cons_succ]
  refine Go.Lq.q_valW (v := .string ⟨T.toArray⟩) (by kernel_rfl) (fun _ _ => by kernel_rfl) ?_
  try simp only [Act.put, List.setIfInBounds_toArray, List.set_cons_zero, List.set_cons_succ]
  refine Go.Lq.q_callW (v := .string ⟨F.toArray⟩) (f := 9) (args := #[.string ⟨U.toArray⟩, .string ⟨T.toArray⟩]) (by kernel_rfl) (fun _ _ => by kernel_rfl) (fun W hW => ?_) ?_
  · have h1 := Tryd.refMac_any ⟨U.toArray⟩ ⟨T.toArray⟩ (by show U.length ≤ _; rw [HUl.out]; omega) (by show T.length ≤ _; rw [HTl.out]; omega) W
    rw [Dg.of_list U, Dg.of_list T, ← HF.out] at h1
    exact h1.mono fun _ _ ⟨h2, h3⟩ => ⟨h2, hW.trans (h3.mono hW.size)⟩
  try simp only [Act.put, List.setIfInBounds_toArray, List.set_cons_zero, List.set_cons_succ]
  refine Go.Lq.q_valW (v := .bool true) (by kernel_rfl) (fun W _ => by go_simp) ?_
  try simp only [Act.put, List.setIfInBounds_toArray, List.set_cons_zero, List.set_cons_succ]
  refine Go.Lq.q_valW (v := .bool true) (by kernel_rfl) (fun _ _ => by kernel_rfl) ?_
  try simp only [Act.put, List.setIfInBounds_toArray, List.set_cons_zero, List.set_cons_succ]
  refine Go.Lq.q_valW (v := .bool true) (by kernel_rfl) (fun _ _ => by kernel_rfl) ?_
  try simp only [Act.put, List.setIfInBounds_toArray, List.set_cons_zero, List.set_cons_succ]
  refine wpQuiet_nil ?_
  intro W2 hW2
  go_wp2
  go_ret
  exact ⟨rfl, (HM12.out.b.trans (HWx.out.mono HM12.out.b.size)).trans (hW2.mono (by have h1 := HM12.out.b.size; have h2 := HWx.out.size; omega))⟩
end Go.Proofs
