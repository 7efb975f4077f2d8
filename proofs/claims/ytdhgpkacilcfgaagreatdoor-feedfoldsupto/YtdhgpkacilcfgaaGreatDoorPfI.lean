/-
  Laid together by packg.py of FiA FiB FiC FiD.
-/
import Derived.Test.YtdhgpkacilcfgaaGreatDoorPfH
import Derived.Deep.WholeRow
import Derived.Laws.IdiomCopy
import Derived.Laws.CopyRow
namespace Go.Proofs
open Go.RowKit Go.Wi Go.Fd Go.Sort
theorem Fd.drop_ne {l : List Cn} {i : Nat} (h : i < l.length) : l.drop i = l[i] :: l.drop (i + 1) := List.drop_eq_getElem_cons h
/-- The first so many; those behind. -/
theorem Fd.Cs.take {w : World} {ad : Option Addr} {n cap : Nat} {l : List Cn} (h : Cs w (.slice ad n cap) l) {m : Nat} (hm : m ≤ l.length) : Cs w (.slice ad m cap) (l.take m) := by
  obtain ⟨ad', cap', e, hc, hn, h1⟩ := h.ex
  injection e with e1 e2 e3
  subst e1 e3
  refine ⟨ad, cap, by rw [List.length_take, Nat.min_eq_left hm], by rw [List.length_take]; omega, hn, ?_⟩
  rcases h1 with rfl | ⟨g, o, rfl, hg, h1⟩
  · exact .inl (by simp)
  · refine .inr ⟨g, o, rfl, hg, fun j u hu => h1 j u ?_⟩
    have e : cnCells l = cnCells (l.take m) ++ cnCells (l.drop m) := by rw [← cnCells_app, List.take_append_drop]
    rw [e, List.getElem?_append_left]
    · exact hu
    · rcases Nat.lt_or_ge j (cnCells (l.take m)).length with h | h
      · exact h
      · rw [List.getElem?_eq_none h] at hu; cases hu
theorem Fd.Cs.drop {w : World} {g o n cap : Nat} {l : List Cn} (h : Cs w (.slice (some ⟨g, o, none⟩) n cap) l) {m : Nat} (hm : m ≤ l.length) (V : Value) (hV : V = .slice (some ⟨g, o + m * 3, none⟩) (l.length - m) (cap - m) ∨ (m = l.length ∧ V = .slice (some ⟨g, o, none⟩) 0 (cap - m))) : Cs w V (l.drop m) := by
  obtain ⟨ad', cap', e, hc, hn, h1⟩ := h.ex
  injection e with e1 e2 e3
  subst e1 e3
  rcases hV with rfl | ⟨rfl, rfl⟩
  · refine ⟨some ⟨g, o + m * 3, none⟩, cap - m, by rw [List.length_drop], by rw [List.length_drop]; omega, (fun e => by cases e), ?_⟩
    rcases h1 with rfl | ⟨g', o', e', hg, h1⟩
    · exact .inl (by simp)
    · injection e' with e'
      injection e' with e4 e5
      subst e4 e5
      refine .inr ⟨g, o + m * 3, rfl, hg, fun j u hu => ?_⟩
      have e : cnCells l = cnCells (l.take m) ++ cnCells (l.drop m) := by rw [← cnCells_app, List.take_append_drop]
      have hl : (cnCells (l.take m)).length = m * 3 := by rw [cnCells_len, List.length_take, Nat.min_eq_left hm]
      have := h1 (m * 3 + j) u (by rw [e, List.getElem?_append_right (by omega), hl, show m * 3 + j - m * 3 = j by omega]; exact hu)
      rwa [← Nat.add_assoc] at this
  · rw [List.drop_length]
    exact ⟨some ⟨g, o, none⟩, cap - l.length, rfl, Nat.zero_le _, (fun e => by cases e), .inl rfl⟩
set_option maxRecDepth 20000 in
set_option maxHeartbeats 2000000 in
theorem Tryz.rSheet_any : ∀ (f : Nat) (l : List Cn), l.length ≤ f → l.length ≤ 2147483648 → ∀ (w : World) (V : Value), Cs w V l → (∀ k, V.ownBlock = some k → k < w.heap.size) →
    Calls Tryz.prog 34 #[V] w fun e w' => ∃ V', e = .returned V' ∧ w'.ownsRow w.heap.size 39 3 V' (sheet l).length (cnCells (sheet l)) ∧ Below w.heap.size w w' := by
  intro f
  induction f with
  | zero =>
    intro l hl _ w V hC hV
    obtain rfl : l = [] := List.eq_nil_of_length_eq_zero (by omega)
    obtain ⟨ad, cap, rfl⟩ := hC.is
    have HC : Hid (Cs w (.slice ad 0 cap) []) := hC
    clear hC hl hV
    rw [sheet_few (by simp)]
    rw [List.length_nil]
    go_enter Tryz.func34, Tryz.ntmps34
    go_wp2_with (first
      | (at_builtin; refine Tryz.appNew rfl _ _ rfl rfl HC.out rfl (by simp) ?_; intro v1 w1 r1 b1)
      | fail)
    go_ret
    exact ⟨_, rfl, r1, b1⟩
  | succ f ih =>
    intro l hl hl2 w V hC hV
    obtain ⟨ad, cap, rfl⟩ := hC.is
    by_cases hfew : l.length < 2
    · have HC : Hid (Cs w (.slice ad l.length cap) l) := hC
      have q1 : (l.length : Int) < 2 := by omega
      have HL : Hid (l.length ≤ 4398046511104) := by show _ ≤ _; omega
      clear hC hV ih
      rw [sheet_few hfew]
      go_enter Tryz.func34, Tryz.ntmps34
      go_wp2_with (first
        | (at_builtin; refine Tryz.appNew rfl _ _ rfl rfl HC.out rfl HL.out ?_; intro v1 w1 r1 b1)
        | fail)
      go_ret
      exact ⟨_, rfl, r1, b1⟩
    · have q1 : ¬ (l.length : Int) < 2 := by omega
      obtain ⟨h, hh⟩ : ∃ h, h = l.length / 2 := ⟨_, rfl⟩
      have h1 : h ≤ l.length := by omega
      have h2 : h < l.length := by omega
      have h3 : 0 < h := by omega
      have hq : (l.length : Int) / 2 = (h : Int) := by omega
      have hcap : l.length ≤ cap := by
        obtain ⟨_, _, e, h1, _⟩ := hC.ex
        injection e with _ _ e3
        subst e3
        exact h1
      obtain ⟨g, o, rfl⟩ : ∃ g o, ad = some ⟨g, o, none⟩ := by
        obtain ⟨g, o, e, _⟩ := hC.at h2
        exact ⟨g, o, e⟩
      have hc1 := ih (l.take h) (by rw [List.length_take]; omega) (by rw [List.length_take]; omega) w (.slice (some ⟨g, o, none⟩) h cap) (Fd.Cs.take hC h1) hV
      have HC : Hid (Cs w (.slice (some ⟨g, o, none⟩) l.length cap) l ∧ ∀ k, (Value.slice (some ⟨g, o, none⟩) l.length cap).ownBlock = some k → k < w.heap.size) := ⟨hC, hV⟩
      have HH : Hid (h = l.length / 2) := hh
      have HSA : Hid (rM (sheet (l.take h)) (sheet (l.drop h)) = sheet l) := by show _ = _; rw [sheet_app, List.take_append_drop]
      have hLa : (sheet (l.take h)).length ≤ h := Nat.le_trans (sheet_len _) (by rw [List.length_take]; omega)
      have hLb : (sheet (l.drop h)).length ≤ l.length - h := Nat.le_trans (sheet_len _) (by rw [List.length_drop]; omega)
      clear hC hV hh
      go_enter Tryz.func34, Tryz.ntmps34
      go_upto_region 4 with (first
        | (go_at_call 34; refine hc1.mono ?_; clear hc1; rintro e w1 ⟨Va, rfl, ra, ba⟩)
        | fail)
      have hw1 : Cs w1 (.slice (some ⟨g, o, none⟩) l.length cap) l := HC.out.1.below ba HC.out.2
      have hc2 := ih (l.drop h) (by rw [List.length_drop]; omega) (by rw [List.length_drop]; omega) w1 (.slice (some ⟨g, o + h * 3, none⟩) (l.length - h) (cap - h)) (Fd.Cs.drop hw1 h1 _ (.inl rfl)) (fun k e => by cases e; exact Nat.lt_of_lt_of_le (HC.out.2 g rfl) ba.size)
      have hne : ¬ cap = h := by omega
      have hle : (h : Int) ≤ (l.length : Int) := by omega
      have hle2 : (l.length : Int) ≤ (cap : Int) := by omega
      clear hw1 ih
      go_upto_region 5 with (first
        | (go_at_call 34; refine hc2.mono ?_; clear hc2; rintro e w2 ⟨Vb, rfl, rb, bb⟩)
        | fail)
      obtain ⟨aa, ca, rfl⟩ := Fd.row_is ra
      obtain ⟨ab, cb, rfl⟩ := Fd.row_is rb
      have HCa : Hid (Cs w2 (.slice aa (sheet (l.take h)).length ca) (sheet (l.take h)) ∧ ∀ k, (Value.slice aa (sheet (l.take h)).length ca).ownBlock = some k → k < w2.heap.size) := ⟨(Cs.ofRow ra).past bb, fun k e => Nat.lt_of_lt_of_le (ra.lt k e).2 bb.size⟩
      have HCb : Hid (Cs w2 (.slice ab (sheet (l.drop h)).length cb) (sheet (l.drop h)) ∧ ∀ k, (Value.slice ab (sheet (l.drop h)).length cb).ownBlock = some k → k < w2.heap.size) := ⟨Cs.ofRow rb, fun k e => (rb.lt k e).2⟩
      have HB2 : Hid (Below w.heap.size w w2) := Fd.bel_on ba ba.size bb
      have hmx : Tryz.prog.follows .mixedOrders = true := by kernel_rfl
      have HN0 : Hid ((sheet (l.take h)).length + (sheet (l.drop h)).length ≤ 2147483648) := by show _ ≤ _; omega
      have HAa : Hid (aa = none ∨ ∃ g, aa = some ⟨g, 0, none⟩) := by
        rcases ra.2 with ⟨e, _⟩ | ⟨g, _, _, e, _⟩
        · injection e with e1; exact .inl e1
        · injection e with e1; exact .inr ⟨g, e1⟩
      clear ra rb ba bb HC hq HH hLa hLb hne hle hle2 hcap h1 h2 h3 q1 hfew
      generalize sheet (l.take h) = A at *
      generalize sheet (l.drop h) = B at *
      have hNa : A.length ≤ 2147483648 := by have := HN0.out; omega
      have hNb : B.length ≤ 2147483648 := by have := HN0.out; omega
      go_upto_region 8 with (fail)
      go_loopw [5, 6, 7] (fun O iv kv wr => ∃ (al : List Cn) (i k : Nat), iv = .int .i64 i ∧ kv = .int .i64 k ∧ i ≤ A.length ∧ k ≤ B.length ∧ wr.ownsRow w2.heap.size 39 3 O al.length (cnCells al) ∧ Below w2.heap.size w2 wr ∧ al.length + (A.length - i) + (B.length - k) ≤ 2147483648 ∧ rM A B = al ++ rM (A.drop i) (B.drop k)) (fun _ _ kv _ => B.length - (intOf kv).toNat)
      case atStart => exact ⟨[], 0, 0, rfl, rfl, Nat.zero_le _, Nat.zero_le _, World.ownsRow_nil _ _ _ _, Below.refl _ _, by have := HN0.out; simp; omega, rfl⟩
      case round =>
        obtain ⟨al0, i0, k, rfl, rfl, hi0, hk, hrow, hbel, hnn, heq⟩ := hrel
        have HR0 : Hid (wr.ownsRow w2.heap.size 39 3 u5 al0.length (cnCells al0)) := hrow
        have HB0 : Hid (Below w2.heap.size w2 wr) := hbel
        have HN1 : Hid (al0.length + (A.length - i0) + (B.length - k) ≤ 2147483648) := hnn
        have HE0 : Hid (rM A B = al0 ++ rM (A.drop i0) (B.drop k)) := heq
        clear hrow hbel hnn heq
        by_cases hkb : k < B.length
        · have qk : (k : Int) < (B.length : Int) := by omega
          go_upto_region 10 with (fail)
          go_loopw [5, 6] (fun O iv wr => ∃ (al : List Cn) (i : Nat), iv = .int .i64 i ∧ i ≤ A.length ∧ wr.ownsRow w2.heap.size 39 3 O al.length (cnCells al) ∧ Below w2.heap.size w2 wr ∧ al.length + (A.length - i) + (B.length - k) ≤ 2147483648 ∧ rM A B = al ++ rM (A.drop i) (B.drop k)) (fun _ iv _ => A.length - (intOf iv).toNat)
          case atStart => exact ⟨al0, i0, rfl, hi0, HR0.out, HB0.out, HN1.out, HE0.out⟩
          case round =>
            obtain ⟨al, i, rfl, hi, hrow, hbel, hnn, heq⟩ := hrel
            have HR : Hid (wr.ownsRow w2.heap.size 39 3 u5 al.length (cnCells al)) := hrow
            have HB : Hid (Below w2.heap.size w2 wr) := hbel
            have HN5 : Hid (al.length + (A.length - i) + (B.length - k) ≤ 2147483648) := hnn
            have HE : Hid (rM A B = al ++ rM (A.drop i) (B.drop k)) := heq
            have HLn : Hid (al.length + 1 ≤ 4398046511104) := by show _ ≤ _; omega
            clear hrow hbel hnn heq HR0 HB0 HN1 HE0
            obtain ⟨gb, ob, e1, cb1, cb2, cb3⟩ := (HCb.out.1.below HB.out HCb.out.2).at hkb
            subst e1
            have hDb : Hid (B.drop k = B[k] :: B.drop (k + 1)) := Fd.drop_ne hkb
            generalize B[k] = y at *
            by_cases hia : i < A.length
            · have qi : (i : Int) < (A.length : Int) := by omega
              obtain ⟨ga, oa, e1, ca1, ca2, ca3⟩ := (HCa.out.1.below HB.out HCa.out.2).at hia
              subst e1
              have hDa : Hid (A.drop i = A[i] :: A.drop (i + 1)) := Fd.drop_ne hia
              generalize A[i] = x at *
              have X0 : ∀ n, (wr.drewN n).cell? ⟨ga, oa + i * 3, none⟩ = some (.string x.room) := fun _ => ca1
              have Y0 : ∀ n, (wr.drewN n).cell? ⟨gb, ob + k * 3, none⟩ = some (.string y.room) := fun _ => cb1
              cases hlt : Op.bytesLess x.room.toList y.room.toList with
              | true =>
                have HE6 : Hid (rM A B = (al ++ [x]) ++ rM (A.drop (i + 1)) (B.drop k)) := by
                  show _ = _
                  rw [HE.out, hDa.out, hDb.out, rM_low hlt]
                  simp
                go_wp2_with (fail)
                go_quiet (fail)
                have HR5 : Hid ((wr.drewN nq).ownsRow w2.heap.size 39 3 u5 al.length (cnCells al)) := Fd.row_keep HR.out fun _ _ => rfl
                have HB5 : Hid (Below w2.heap.size w2 (wr.drewN nq)) := belowN HB.out nq
                have x0 : (wr.drewN nq).cell? ⟨ga, oa + i * 3, none⟩ = some (.string x.room) := ca1
                have x1 : (wr.drewN nq).cell? ⟨ga, oa + i * 3 + 1, none⟩ = some (.int .i64 x.un) := ca2
                have x2 : (wr.drewN nq).cell? ⟨ga, oa + i * 3 + 2, none⟩ = some (.int .i64 x.hi) := ca3
                clear X0 Y0 ca1 ca2 ca3 cb1 cb2 cb3 HR HB HE
                generalize wr.drewN nq = wz at *
                go_wp2_with (first
                  | (at_builtin; refine Tryz.appCn Tryz.underlying22 rfl _ _ rfl (Fd.row_past HR5.out ((Below.refl _ _).alloc (Nat.le_refl _) _) (Nat.le_refl _)) (by rw [World.size_alloc]; exact Nat.le_succ_of_le HB5.out.size) rfl (Fd.cs_one (heap_alloc_new _ _)) rfl HLn.out ?_; intro v6 w6 r6 b6)
                  | fail)
                go_roundw
                case rel => exact ⟨al ++ [x], i + 1, by simp, by omega, by simpa using r6, (HB5.out.alloc HB5.out.size _).trans b6, by have := HN5.out; simp; omega, HE6.out⟩
                case measure => simp [intOf]; omega
              | false =>
                have HE6 : Hid (rM A B = (al ++ [y]) ++ rM (if x.room = y.room then A.drop (i + 1) else A.drop i) (B.drop (k + 1))) := by
                  show _ = _
                  rw [HE.out, hDa.out, hDb.out, rM_stop hlt]
                  simp
                go_wp2_with (fail)
                go_quiet (fail)
                have X1 : ∀ n, ((wr.drewN nq).drewN n).cell? ⟨ga, oa + i * 3, none⟩ = some (.string x.room) := fun _ => ca1
                have Y1 : ∀ n, ((wr.drewN nq).drewN n).cell? ⟨gb, ob + k * 3, none⟩ = some (.string y.room) := fun _ => cb1
                have y0 : ∀ n, ((wr.drewN nq).drewN n).cell? ⟨gb, ob + k * 3, none⟩ = some (.string y.room) := fun _ => cb1
                have y1 : ∀ n, ((wr.drewN nq).drewN n).cell? ⟨gb, ob + k * 3 + 1, none⟩ = some (.int .i64 y.un) := fun _ => cb2
                have y2 : ∀ n, ((wr.drewN nq).drewN n).cell? ⟨gb, ob + k * 3 + 2, none⟩ = some (.int .i64 y.hi) := fun _ => cb3
                have HR4 : Hid (∀ n, ((wr.drewN nq).drewN n).ownsRow w2.heap.size 39 3 u5 al.length (cnCells al)) := fun _ => Fd.row_keep HR.out fun _ _ => rfl
                have HB4 : Hid (∀ n, Below w2.heap.size w2 ((wr.drewN nq).drewN n)) := fun n => belowN (belowN HB.out nq) n
                clear X0 Y0 ca1 ca2 ca3 cb1 cb2 cb3 HR HB HE
                generalize wr.drewN nq = wz at *
                by_cases hxy : x.room = y.room
                · have heq : (x.room.toList == y.room.toList) = true := by rw [hxy]; simp
                  rw [if_pos hxy] at HE6
                  have HXY : Hid (x.room = y.room) := hxy
                  clear hxy
                  go_wp2_with (fail)
                  go_quiet (fail)
                  have z0 := y0 nq
                  have z1 := y1 nq
                  have z2 := y2 nq
                  have HR5 : Hid _ := HR4.out nq
                  have HB5 : Hid (Below w2.heap.size w2 (wz.drewN nq)) := HB4.out nq
                  clear X1 Y1 y0 y1 y2 HR4 HB4
                  generalize wz.drewN nq = wy at *
                  go_wp2_with (first
                    | (at_builtin; refine Tryz.appCn Tryz.underlying22 rfl _ _ rfl (Fd.row_past HR5.out ((Below.refl _ _).alloc (Nat.le_refl _) _) (Nat.le_refl _)) (by rw [World.size_alloc]; exact Nat.le_succ_of_le HB5.out.size) rfl (Fd.cs_one (heap_alloc_new _ _)) rfl HLn.out ?_; intro v6 w6 r6 b6)
                    | fail)
                  go_roundw
                  case rel => exact ⟨al ++ [y], i + 1, k + 1, by simp, by simp, by omega, by omega, by simpa using r6, (HB5.out.alloc HB5.out.size _).trans b6, by have := HN5.out; simp; omega, HE6.out⟩
                  case measure => simp [intOf]; omega
                · have heq : (x.room.toList == y.room.toList) = false := by simpa using fun e => hxy (toList_inj e)
                  rw [if_neg hxy] at HE6
                  clear hxy
                  go_wp2_with (fail)
                  go_quiet (fail)
                  have z0 := y0 nq
                  have z1 := y1 nq
                  have z2 := y2 nq
                  have HR5 : Hid _ := HR4.out nq
                  have HB5 : Hid (Below w2.heap.size w2 (wz.drewN nq)) := HB4.out nq
                  clear X1 Y1 y0 y1 y2 HR4 HB4
                  generalize wz.drewN nq = wy at *
                  go_wp2_with (first
                    | (at_builtin; refine Tryz.appCn Tryz.underlying22 rfl _ _ rfl (Fd.row_past HR5.out ((Below.refl _ _).alloc (Nat.le_refl _) _) (Nat.le_refl _)) (by rw [World.size_alloc]; exact Nat.le_succ_of_le HB5.out.size) rfl (Fd.cs_one (heap_alloc_new _ _)) rfl HLn.out ?_; intro v6 w6 r6 b6)
                    | fail)
                  go_roundw
                  case rel => exact ⟨al ++ [y], i, k + 1, by simp, by simp, by omega, by omega, by simpa using r6, (HB5.out.alloc HB5.out.size _).trans b6, by have := HN5.out; simp; omega, HE6.out⟩
                  case measure => simp [intOf]; omega
            · have qi : ¬ (i : Int) < (A.length : Int) := by omega
              have hAd : A.drop i = [] := List.drop_eq_nil_of_le (by omega)
              have HE6 : Hid (rM A B = (al ++ [y]) ++ rM (A.drop i) (B.drop (k + 1))) := by
                show _ = _
                rw [HE.out, hAd, hDb.out, rM_none]
                simp
              have y0 : wr.drew.drew.cell? ⟨gb, ob + k * 3, none⟩ = some (.string y.room) := cb1
              have y1 : wr.drew.drew.cell? ⟨gb, ob + k * 3 + 1, none⟩ = some (.int .i64 y.un) := cb2
              have y2 : wr.drew.drew.cell? ⟨gb, ob + k * 3 + 2, none⟩ = some (.int .i64 y.hi) := cb3
              have HR5 : Hid (wr.drew.drew.ownsRow w2.heap.size 39 3 u5 al.length (cnCells al)) := Fd.row_keep HR.out fun _ _ => rfl
              have HB5 : Hid (Below w2.heap.size w2 wr.drew.drew) := HB.out.drew.drew
              clear cb1 cb2 cb3 HR HB HE hAd
              go_wp2_with (fail)
              go_big_region_o
              go_wp2_with (fail)
              go_big_region_o
              generalize wr.drew.drew = wy at *
              go_wp2_with (first
                | (at_builtin; refine Tryz.appCn Tryz.underlying22 rfl _ _ rfl (Fd.row_past HR5.out ((Below.refl _ _).alloc (Nat.le_refl _) _) (Nat.le_refl _)) (by rw [World.size_alloc]; exact Nat.le_succ_of_le HB5.out.size) rfl (Fd.cs_one (heap_alloc_new _ _)) rfl HLn.out ?_; intro v6 w6 r6 b6)
                | fail)
              go_roundw
              case rel => exact ⟨al ++ [y], i, k + 1, by simp, by simp, by omega, by omega, by simpa using r6, (HB5.out.alloc HB5.out.size _).trans b6, by have := HN5.out; simp; omega, HE6.out⟩
              case measure => simp [intOf]; omega
        · have qk : ¬ (k : Int) < (B.length : Int) := by omega
          have HE6 : Hid (sheet l = al0 ++ A.drop i0) := by
            show _ = _
            rw [← HSA.out, HE0.out, List.drop_eq_nil_of_le (by omega : B.length ≤ k), rM_nil]
          have hCa := HCa.out.1.below HB0.out HCa.out.2
          have hca : A.length ≤ ca := by
            obtain ⟨_, _, e, h1, _⟩ := hCa.ex
            injection e with _ _ e3
            subst e3
            exact h1
          have HLn : Hid (al0.length + (A.drop i0).length ≤ 4398046511104) := by show _ ≤ _; rw [List.length_drop]; have := HN1.out; omega
          have k1 : (i0 : Int) ≤ (A.length : Int) := by omega
          have k2 : (A.length : Int) ≤ (ca : Int) := by omega
          rcases HAa.out with rfl | ⟨ga, rfl⟩
          · have hz : ca = 0 ∧ A = [] := by
              obtain ⟨ad', cap', e, hc, hn, h1⟩ := hCa.ex
              injection e with e1 e2 e3
              have := hn e1.symm
              have h0 : A.length = 0 := by omega
              exact ⟨by omega, List.eq_nil_of_length_eq_zero h0⟩
            obtain ⟨rfl, rfl⟩ := hz
            obtain rfl : i0 = 0 := by simpa using hi0
            have HY : Hid (Cs wr (.slice none 0 0) (([] : List Cn).drop 0)) := Cs.nil _
            rw [List.length_nil]
            clear hCa
            go_wp2_with (first
              | (at_builtin; refine Tryz.appCn Tryz.underlying22 rfl _ _ rfl HR0.out HB0.out.size rfl HY.out rfl HLn.out ?_; intro v6 w6 r6 b6)
              | fail)
            go_ret
            rw [← HE6.out] at r6
            have e6 : al0.length + (([] : List Cn).drop 0).length = (sheet l).length := by rw [HE6.out, List.length_append]
            rw [e6] at r6
            exact ⟨_, rfl, Fd.row_mono r6 HB2.out.size, HB2.out.trans ((HB0.out.trans b6).mono HB2.out.size)⟩
          · by_cases hci : ca = i0
            · have HY : Hid (Cs wr (.slice (some ⟨ga, 0, none⟩) 0 0) (A.drop i0)) := by
                have := Fd.Cs.drop hCa hi0 (.slice (some ⟨ga, 0, none⟩) 0 (ca - i0)) (.inr ⟨by omega, rfl⟩)
                rwa [show ca - i0 = 0 by omega] at this
              have e7 : A.length = i0 := by omega
              clear hCa
              go_wp2_with (first
                | (at_builtin; refine Tryz.appCn Tryz.underlying22 rfl _ _ rfl HR0.out HB0.out.size rfl HY.out rfl HLn.out ?_; intro v6 w6 r6 b6)
                | fail)
              go_ret
              rw [← HE6.out] at r6
              have e6 : al0.length + (A.drop i0).length = (sheet l).length := by rw [HE6.out, List.length_append]
              rw [e6] at r6
              exact ⟨_, rfl, Fd.row_mono r6 HB2.out.size, HB2.out.trans ((HB0.out.trans b6).mono HB2.out.size)⟩
            · have HY : Hid (Cs wr (.slice (some ⟨ga, 0 + i0 * 3, none⟩) (A.length - i0) (ca - i0)) (A.drop i0)) := Fd.Cs.drop hCa hi0 _ (.inl rfl)
              simp only [Nat.zero_add] at HY
              clear hCa
              go_wp2_with (first
                | (at_builtin; refine Tryz.appCn Tryz.underlying22 rfl _ _ rfl HR0.out HB0.out.size rfl HY.out rfl HLn.out ?_; intro v6 w6 r6 b6)
                | fail)
              go_ret
              rw [← HE6.out] at r6
              have e6 : al0.length + (A.drop i0).length = (sheet l).length := by rw [HE6.out, List.length_append]
              rw [e6] at r6
              exact ⟨_, rfl, Fd.row_mono r6 HB2.out.size, HB2.out.trans ((HB0.out.trans b6).mono HB2.out.size)⟩
end Go.Proofs
namespace Go.Fd
/-- Is there a count of this room? -/
def isIn (l : List Cn) (r : ByteArray) : Bool := l.any fun y => decide (y.room = r)
theorem isIn_true {l : List Cn} {i : Nat} (h : i < l.length) {r : ByteArray} (e : l[i].room = r) : isIn l r = true :=
  List.any_eq_true.2 ⟨l[i], List.getElem_mem h, by simpa using e⟩
theorem isIn_false {l : List Cn} {r : ByteArray} (h : ∀ i (hi : i < l.length), l[i].room ≠ r) : isIn l r = false := by
  unfold isIn
  rw [List.any_eq_false]
  intro y hy
  obtain ⟨i, hi, rfl⟩ := List.getElem_of_mem hy
  simpa using h i hi
end Go.Fd
namespace Go.Proofs
open Go.RowKit Go.Wi Go.Fd Go.Sort
theorem Fd.results_row1 {P : Program} {fn : Func} {p t : Tmp} {ty : TypeId} (h : fn.results = #[.cell p ty, .tmp t]) (tmps : Array Value) (w : World) (g : Nat) (tt : TypeId) (cs : Array Value) (fr : Nat × Nat) (d : TypeDesc)
    (hp : tmps.getD p undef = .pointer (some ⟨g, 0, none⟩)) (hg : w.heap[g]? = some (.cells cs tt fr))
    (hu : P.underlying ty = some d) (hd : (match d with | .struct _ | .array _ _ => true | _ => false) = true) (hi : (P.info? ty).map (·.size) = some cs.size) :
    (results fn tmps).run P w = .ok (.tuple #[.agg cs, tmps.getD t undef]) w := by
  have hp' : tmps[p]?.getD undef = .pointer (some ⟨g, 0, none⟩) := by simpa using hp
  simp [results, h, hp', asAddr, run_loadVar_row w g tt ty cs fr d hg hu hd hi]
/-- What where answers. -/
def Fd.WhOk (w w' : World) (b : Bool) (e : Ending) : Prop := (∃ c : Cn, e = .returned (.tuple #[.agg #[.string c.room, .int .i64 c.un, .int .i64 c.hi], .bool b])) ∧ Below w.heap.size w w'
set_option maxRecDepth 20000 in
set_option maxHeartbeats 1000000 in
theorem Tryz.where_any {w : World} {V : Value} {l : List Cn} (hC : Cs w V l) (hV : ∀ k, V.ownBlock = some k → k < w.heap.size) (hr : Rise l) (hl : l.length ≤ 2147483648) (r : ByteArray) :
    Calls Tryz.prog 35 #[V, .string r] w fun e w' => Fd.WhOk w w' (isIn l r) e := by
  obtain ⟨ad, cap, rfl⟩ := hC.is
  have HC : Hid (Cs w (.slice ad l.length cap) l ∧ ∀ k, (Value.slice ad l.length cap).ownBlock = some k → k < w.heap.size) := ⟨hC, hV⟩
  have HR : Hid (Rise l) := hr
  clear hC hV hr
  go_enter Tryz.func35, Tryz.ntmps35
  go_upto_region 3 with (fail)
  obtain ⟨w1, hw1⟩ : ∃ W, W = w.alloc (.cells #[.string ⟨#[]⟩, .int .i64 0, .int .i64 0] 39) := ⟨_, rfl⟩
  rw [← hw1]
  have HM : Hid (w1.heap[w.heap.size]? = some (.cells #[.string ⟨#[]⟩, .int .i64 0, .int .i64 0] 39 (0, 0))) := by show _ = _; rw [hw1]; exact heap_alloc_new _ _
  have HB : Hid (Below w.heap.size w w1) := by show Below _ _ _; rw [hw1]; exact (Below.refl _ w).alloc (Nat.le_refl _) _
  clear hw1
  obtain ⟨bm, hbm⟩ : ∃ b, b = w.heap.size := ⟨_, rfl⟩
  have HBM : Hid (bm = w.heap.size) := hbm
  rw [← hbm] at HM ⊢
  clear hbm
  have hC1 := HC.out.1.below HB.out HC.out.2
  have HC1 : Hid (Cs w1 (.slice ad l.length cap) l) := hC1
  clear hC1
  go_loopw [6, 7, 8] (fun iv jv _ wr => ∃ i j : Nat, iv = .int .i64 i ∧ jv = .int .i64 j ∧ i ≤ j ∧ j ≤ l.length ∧ (∀ k (hk : k < l.length), k < i → lr l[k].room r = true) ∧ (∀ k (hk : k < l.length), j ≤ k → lr r l[k].room = true) ∧ wr = w1) (fun iv jv _ _ => (intOf jv).toNat - (intOf iv).toNat)
  case atStart => exact ⟨0, l.length, rfl, rfl, Nat.zero_le _, Nat.le_refl _, fun k _ h => by omega, fun k hk h => by omega, rfl⟩
  case round =>
    obtain ⟨i, j, rfl, rfl, hij, hj, hlo, hhi, rfl⟩ := hrel
    have HLo : Hid (∀ k (hk : k < l.length), k < i → lr l[k].room r = true) := hlo
    have HHi : Hid (∀ k (hk : k < l.length), j ≤ k → lr r l[k].room = true) := hhi
    clear hlo hhi
    have hjb : j ≤ 2147483648 := by omega
    have hib : i ≤ 2147483648 := by omega
    have m0 := cell_of_row _ _ 0 _ _ _ HM.out
    have m1 := cell_of_row _ _ 1 _ _ _ HM.out
    have m2 := cell_of_row _ _ 2 _ _ _ HM.out
    have f0 := frozen_of_row _ _ 0 _ _ HM.out
    have f1 := frozen_of_row _ _ 1 _ _ HM.out
    have f2 := frozen_of_row _ _ 2 _ _ HM.out
    by_cases hlt : i < j
    · have q1 : (i : Int) < (j : Int) := by omega
      obtain ⟨m, hm⟩ : ∃ m, m = (i + j) / 2 := ⟨_, rfl⟩
      have hmi : i ≤ m := by omega
      have hmj : m < j := by omega
      have hml : m < l.length := by omega
      have hq : ((i : Int) + (j : Int)) / 2 = (m : Int) := by omega
      obtain ⟨g, o, rfl, c1, c2, c3⟩ := HC1.out.at hml
      have HX : Hid (∀ x, x = l[m] → x.room = l[m].room) := fun x e => by rw [e]
      obtain ⟨x, hx⟩ : ∃ x, x = l[m] := ⟨_, rfl⟩
      rw [← hx] at c1 c2 c3
      have HXm : Hid (x = l[m]) := hx
      clear hx hm HX
      by_cases hxr : x.room = r
      · have he : (x.room.toList == r.toList) = true := by rw [hxr]; simp
        have HIn : Hid (isIn l r = true) := isIn_true hml (by rw [← HXm.out]; exact hxr)
        have HXR : Hid (x.room = r) := hxr
        clear hxr
        go_wp2
        have e0 := heap_setCell_same _ bm 0 _ _ (.string x.room) HM.out
        have e1 := heap_setCell_same _ bm 1 _ _ (.int .i64 x.un) e0
        have e2 := heap_setCell_same _ bm 2 _ _ (.int .i64 x.hi) e1
        refine bodyPost_ret (Fd.results_row1 rfl _ _ bm _ _ _ _ rfl e2 Tryz.underlying39 rfl (by kernel_rfl)) rfl ?_
        rw [HIn.out]
        have hb3 : ∀ (W : World) (i : Nat) (v : Value), Below w.heap.size w W → Below w.heap.size w (W.setCell ⟨bm, i, none⟩ v) := fun W i v h => h.setCell (p := ⟨bm, i, none⟩) (by show _ ≤ bm; rw [HBM.out]; exact Nat.le_refl _) v
        exact ⟨⟨x, rfl⟩, hb3 _ 2 _ (hb3 _ 1 _ (hb3 _ 0 _ HB.out))⟩
      · have he : (x.room.toList == r.toList) = false := by simpa using fun e => hxr (toList_inj e)
        cases hb : Op.bytesLess x.room.toList r.toList with
        | true =>
          clear hxr
          go_wp2
          go_roundw
          case rel =>
            refine ⟨m + 1, j, by simp, rfl, by omega, hj, fun k hk hk2 => ?_, HHi.out, by first | trivial | rfl⟩
            by_cases e : k = m
            · subst e; rw [← HXm.out]; exact hb
            · have h1 := List.pairwise_iff_getElem.1 HR.out k m hk hml (by omega)
              rw [← HXm.out] at h1
              exact lr_trans h1 hb
          case measure => simp [intOf]; omega
        | false =>
          have hrx : lr r x.room = true := by
            cases e : lr r x.room with
            | true => rfl
            | false => exact absurd (lr_tot hb e) hxr
          clear hxr
          go_wp2
          go_roundw
          case rel =>
            refine ⟨i, m, rfl, by first | (simp; done) | (simp; omega), by omega, by omega, HLo.out, fun k hk hk2 => ?_, by first | trivial | rfl⟩
            by_cases e : k = m
            · subst e; rw [← HXm.out]; exact hrx
            · have h1 := List.pairwise_iff_getElem.1 HR.out m k hml hk (by omega)
              rw [← HXm.out] at h1
              exact lr_trans hrx h1
          case measure => simp [intOf]; omega
    · have q1 : ¬ (i : Int) < (j : Int) := by omega
      have HIn : Hid (isIn l r = false) := isIn_false fun k hk e => by
        by_cases h : k < i
        · exact lr_ne (HLo.out k hk h) e
        · exact lr_ne (HHi.out k hk (by omega)) e.symm
      go_wp2
      have e0 := heap_setCell_same _ bm 0 _ _ (.string ⟨#[]⟩) HM.out
      have e1 := heap_setCell_same _ bm 1 _ _ (.int .i64 0) e0
      have e2 := heap_setCell_same _ bm 2 _ _ (.int .i64 0) e1
      refine bodyPost_ret (Fd.results_row1 rfl _ _ bm _ _ _ _ rfl e2 Tryz.underlying39 rfl (by kernel_rfl)) rfl ?_
      rw [HIn.out]
      have hb3 : ∀ (W : World) (i : Nat) (v : Value), Below w.heap.size w W → Below w.heap.size w (W.setCell ⟨bm, i, none⟩ v) := fun W i v h => h.setCell (p := ⟨bm, i, none⟩) (by show _ ≤ bm; rw [HBM.out]; exact Nat.le_refl _) v
      exact ⟨⟨⟨⟨#[]⟩, 0, 0⟩, rfl⟩, hb3 _ 2 _ (hb3 _ 1 _ (hb3 _ 0 _ HB.out))⟩
end Go.Proofs
namespace Go.Fd
open Go.Sort
def bare (r : ByteArray) : Cn := ⟨r, 0, 0⟩
/-- Those whose rooms are not gone. -/
def left (la : List Cn) (lg : List ByteArray) : List Cn := la.filter fun x => !isIn (sheet (lg.map bare)) x.room
theorem isIn_mem {l : List Cn} {r : ByteArray} : isIn l r = true ↔ ∃ y ∈ l, y.room = r := by
  unfold isIn
  rw [List.any_eq_true]
  simp
theorem isIn_gone (lg : List ByteArray) (r : ByteArray) : isIn (sheet (lg.map bare)) r = true ↔ r ∈ lg := by
  rw [isIn_mem]
  constructor
  · rintro ⟨y, hy, rfl⟩
    obtain ⟨h1, _⟩ := lk_some (mem_sheet.1 hy)
    obtain ⟨b, hb, rfl⟩ := List.mem_map.1 h1
    exact hb
  · intro h
    cases e : lk (lg.map bare) r with
    | none => exact absurd rfl (lk_none e (bare r) (List.mem_map.2 ⟨r, h, rfl⟩))
    | some c =>
      obtain ⟨_, h2⟩ := lk_some e
      exact ⟨c, mem_sheet.2 (by rw [h2]; exact e), h2⟩
theorem lk_keep (p : ByteArray → Bool) (r : ByteArray) (hr : p r = true) : ∀ l : List Cn, lk (l.filter fun x => p x.room) r = lk l r
  | [] => rfl
  | x :: l => by
    have ih := lk_keep p r hr l
    have e : ∀ l : List Cn, lk (x :: l) r = match lk l r with
        | some c => some c
        | none => if x.room = r then some x else none := fun _ => rfl
    by_cases h : p x.room = true
    · rw [List.filter_cons_of_pos (p := fun x : Cn => p x.room) h, e, e, ih]
    · rw [List.filter_cons_of_neg (p := fun x : Cn => p x.room) h, e, ih]
      have : x.room ≠ r := fun e' => h (by rw [e']; exact hr)
      cases lk l r with
      | none => simp [this]
      | some c => rfl
theorem ref_fold (la lc : List Cn) (lg : List ByteArray) : sheet (left la lg ++ lc) = foldP la lc lg := by
  refine (sheet_rise _).ext (fold_rise _ _ _) fun z => ?_
  rw [mem_sheet, lk_append, mem_fold, mem_sheet, mem_sheet]
  have none_iff : lk lc z.room = none ↔ ∀ y ∈ sheet lc, y.room ≠ z.room := by
    constructor
    · intro h y hy e
      have := mem_sheet.1 hy
      rw [e, h] at this
      cases this
    · intro h
      cases e : lk lc z.room with
      | none => rfl
      | some c =>
        have e2 := (lk_some e).2
        exact absurd e2 (h c (mem_sheet.2 (by rw [e2]; exact e)))
  cases e : lk lc z.room with
  | some c =>
    simp only
    constructor
    · intro h; exact .inl h
    · rintro (h | ⟨_, _, h⟩)
      · exact h
      · rw [none_iff.2 h] at e; cases e
  | none =>
    simp only
    constructor
    · intro h
      obtain ⟨h1, _⟩ := lk_some h
      have hg : isIn (sheet (lg.map bare)) z.room = false := by
        have := (List.mem_filter.1 h1).2
        simpa using this
      refine .inr ⟨?_, fun h2 => ?_, none_iff.1 e⟩
      · rw [left, lk_keep (fun r => !isIn (sheet (lg.map bare)) r) z.room (by rw [hg]; rfl)] at h
        exact h
      · rw [(isIn_gone lg z.room).2 h2] at hg
        cases hg
    · rintro (h | ⟨h1, h2, _⟩)
      · cases h
      · have hg : isIn (sheet (lg.map bare)) z.room = false := by
          cases e3 : isIn (sheet (lg.map bare)) z.room with
          | false => rfl
          | true => exact absurd ((isIn_gone lg z.room).1 e3) h2
        rw [left, lk_keep (fun r => !isIn (sheet (lg.map bare)) r) z.room (by rw [hg]; rfl)]
        exact h1
theorem left_len (la : List Cn) (lg : List ByteArray) : (left la lg).length ≤ la.length := List.length_filter_le _ _
theorem left_take (R : List Cn) (la : List Cn) {i : Nat} (h : i < la.length) : (la.take (i + 1)).filter (fun x => !isIn R x.room) = (la.take i).filter (fun x => !isIn R x.room) ++ (if isIn R la[i].room then [] else [la[i]]) := by
  rw [List.take_succ_eq_append_getElem h, List.filter_append]
  congr 1
  cases e : isIn R la[i].room <;> simp [e]
end Go.Fd
namespace Go.Proofs
open Go.RowKit Go.Wi Go.Fd Go.Sort
set_option maxRecDepth 20000 in
set_option maxHeartbeats 1000000 in
theorem Tryz.rFold_whole {w : World} {Va V Vg : Value} {l : List Cn} (h : Cs w V l) (hV : ∀ k, V.ownBlock = some k → k < w.heap.size) (hl : l.length ≤ 2147483648) :
    Calls Tryz.prog 14 #[Va, V, Vg, .bool true] w fun e w' => ∃ V', e = .returned V' ∧ w'.ownsRow w.heap.size 39 3 V' (sheet l).length (cnCells (sheet l)) ∧ Below w.heap.size w w' := by
  have hs := Tryz.rSheet_any l.length l (Nat.le_refl _) hl w V h hV
  clear h hV hl
  go_enter Tryz.func14, Tryz.ntmps14
  go_wp2_with (first
    | (go_at_call 34; refine hs.mono ?_; clear hs; rintro e w1 ⟨V1, rfl, hr1, hb1⟩)
    | fail)
  go_ret
  exact ⟨V1, rfl, hr1, hb1⟩
set_option maxRecDepth 20000 in
set_option maxHeartbeats 2000000 in
theorem Tryz.rFold_part {w : World} {Va Vc Vg : Value} {la lc : List Cn} {lg : List ByteArray} (hA : Cs w Va la) (hA2 : ∀ k, Va.ownBlock = some k → k < w.heap.size) (hC : Cs w Vc lc) (hC2 : ∀ k, Vc.ownBlock = some k → k < w.heap.size)
    (hG : Ts w Vg lg) (hG2 : ∀ k, Vg.ownBlock = some k → k < w.heap.size) (h1 : la.length + lc.length ≤ 2147483648) (h2 : lg.length ≤ 2147483648) :
    Calls Tryz.prog 14 #[Va, Vc, Vg, .bool false] w fun e w' => ∃ V', e = .returned V' ∧ w'.ownsRow w.heap.size 39 3 V' (foldP la lc lg).length (cnCells (foldP la lc lg)) ∧ Below w.heap.size w w' := by
  obtain ⟨aa, ca, rfl⟩ := hA.is
  obtain ⟨ag, cg, rfl⟩ := hG.is
  have HA : Hid (Cs w (.slice aa la.length ca) la ∧ ∀ k, (Value.slice aa la.length ca).ownBlock = some k → k < w.heap.size) := ⟨hA, hA2⟩
  have HC : Hid (Cs w Vc lc ∧ ∀ k, Vc.ownBlock = some k → k < w.heap.size) := ⟨hC, hC2⟩
  have HG : Hid (Ts w (.slice ag lg.length cg) lg ∧ ∀ k, (Value.slice ag lg.length cg).ownBlock = some k → k < w.heap.size) := ⟨hG, hG2⟩
  have HL : Hid (la.length + lc.length ≤ 2147483648) := h1
  have hNa : la.length ≤ 2147483648 := by omega
  clear hA hA2 hC hC2 hG hG2 h1
  go_enter Tryz.func14, Tryz.ntmps14
  go_upto_region 6 with (fail)
  go_loopw [10, 11] (fun R iv wr => ∃ i : Nat, iv = .int .i64 i ∧ i ≤ lg.length ∧ wr.ownsRow w.heap.size 39 3 R i (cnCells ((lg.take i).map bare)) ∧ Below w.heap.size w wr) (fun _ iv _ => lg.length - (intOf iv).toNat)
  case atStart => exact ⟨0, rfl, Nat.zero_le _, World.ownsRow_nil _ _ _ _, Below.refl _ _⟩
  case round =>
    obtain ⟨i, rfl, hi, hrow, hbel⟩ := hrel
    have HR : Hid (wr.ownsRow w.heap.size 39 3 u10 i (cnCells ((lg.take i).map bare))) := hrow
    have HB : Hid (Below w.heap.size w wr) := hbel
    clear hrow hbel
    by_cases hlt : i < lg.length
    · have q1 : (i : Int) < (lg.length : Int) := by omega
      obtain ⟨g, o, rfl, c1⟩ := (HG.out.1.below HB.out HG.out.2).at hlt
      have HS : Hid ((lg.take (i + 1)).map bare = (lg.take i).map bare ++ [bare lg[i]]) := by show _ = _; rw [List.take_succ_eq_append_getElem hlt, List.map_append]; rfl
      generalize lg[i] = x at *
      have HLn : Hid (i + 1 ≤ 4398046511104) := by show _ ≤ _; omega
      go_wp2_with (first
        | (at_builtin; refine Tryz.appCn Tryz.underlying22 rfl _ _ rfl (Fd.row_past HR.out ((Below.refl _ _).alloc (Nat.le_refl _) _) (Nat.le_refl _)) (by rw [World.size_alloc]; exact Nat.le_succ_of_le HB.out.size) rfl (Fd.cs_one (x := bare x) (heap_alloc_new _ _)) rfl HLn.out ?_; intro v6 w6 r6 b6)
        | fail)
      go_roundw
      case rel => exact ⟨i + 1, by simp, by omega, by rw [HS.out]; exact r6, (HB.out.alloc HB.out.size _).trans b6⟩
      case measure => simp [intOf]; omega
    · have q1 : ¬ (i : Int) < (lg.length : Int) := by omega
      obtain rfl : i = lg.length := by omega
      rw [List.take_length] at HR
      have hs := Tryz.rSheet_any lg.length (lg.map bare) (by simp) (by simp; omega) wr u10 (Cs.ofRow HR.out) (fun k e => (HR.out.lt k e).2)
      go_upto_region 10 with (first
        | (go_at_call 34; refine hs.mono ?_; clear hs; rintro e w2 ⟨VR, rfl, rR, bR⟩)
        | fail)
      have HB2 : Hid (Below w.heap.size w w2) := HB.out.trans (bR.mono HB.out.size)
      have HRR : Hid (Cs w2 VR (sheet (lg.map bare)) ∧ ∀ k, VR.ownBlock = some k → k < w2.heap.size) := ⟨Cs.ofRow rR, fun k e => (rR.lt k e).2⟩
      have HRi : Hid (Rise (sheet (lg.map bare)) ∧ (sheet (lg.map bare)).length ≤ 2147483648) := ⟨sheet_rise _, Nat.le_trans (sheet_len _) (by simp; omega)⟩
      have HLf : Hid (left la lg = la.filter fun x => !isIn (sheet (lg.map bare)) x.room) := rfl
      clear rR bR HR HB
      generalize sheet (lg.map bare) = RR at *
      go_upto_region 11 with (fail)
      go_loopw [9, 12, 13, 14] (fun L iv _ _ wr => ∃ i : Nat, iv = .int .i64 i ∧ i ≤ la.length ∧ wr.ownsRow w2.heap.size 39 3 L ((la.take i).filter fun x => !isIn RR x.room).length (cnCells ((la.take i).filter fun x => !isIn RR x.room)) ∧ Below w2.heap.size w2 wr) (fun _ iv _ _ _ => la.length - (intOf iv).toNat)
      case atStart => exact ⟨0, rfl, Nat.zero_le _, World.ownsRow_nil _ _ _ _, Below.refl _ _⟩
      case round =>
        obtain ⟨i, rfl, hi, hrow, hbel⟩ := hrel
        have HR : Hid (wr.ownsRow w2.heap.size 39 3 u9 ((la.take i).filter fun x => !isIn RR x.room).length (cnCells ((la.take i).filter fun x => !isIn RR x.room))) := hrow
        have HB : Hid (Below w2.heap.size w2 wr) := hbel
        clear hrow hbel
        by_cases hlt : i < la.length
        · have q1 : (i : Int) < (la.length : Int) := by omega
          have HBw : Hid (Below w.heap.size w wr) := HB2.out.trans (HB.out.mono HB2.out.size)
          obtain ⟨g, o, rfl, c1, c2, c3⟩ := (HA.out.1.below HBw.out HA.out.2).at hlt
          have HT := left_take RR la hlt
          have HLn : Hid (((la.take i).filter fun x => !isIn RR x.room).length + 1 ≤ 4398046511104) := by
            show _ ≤ _
            have h3 := List.length_filter_le (fun x : Cn => !isIn RR x.room) (la.take i)
            rw [List.length_take] at h3
            omega
          have hgl : g < wr.heap.size := Nat.lt_of_lt_of_le (HA.out.2 g rfl) HBw.out.size
          have HTk : Hid (((la.take (i + 1)).filter fun x => !isIn RR x.room) = ((la.take i).filter fun x => !isIn RR x.room) ++ (if isIn RR la[i].room then [] else [la[i]])) := HT
          have hwh := Tryz.where_any (HRR.out.1.past HB.out) (fun k e => Nat.lt_of_lt_of_le (HRR.out.2 k e) HB.out.size) HRi.out.1 HRi.out.2 la[i].room
          clear HT
          obtain ⟨LB, hLB⟩ : ∃ L, L = ((la.take (i + 1)).filter fun x => !isIn RR x.room) := ⟨_, rfl⟩
          have HLB : Hid (((la.take (i + 1)).filter fun x => !isIn RR x.room) = LB) := hLB.symm
          rw [← hLB] at HTk
          clear hLB
          generalize ((la.take i).filter fun x => !isIn RR x.room) = LA at *
          generalize la[i] = x at *
          cases hb : isIn RR x.room with
          | true =>
            rw [hb] at HTk hwh
            go_wp2_with (first
              | (go_at_call 35; refine hwh.mono ?_; clear hwh; rintro e w3 ⟨⟨cc, rfl⟩, bw⟩)
              | fail)
            go_roundw
            case rel =>
              simp only [if_true, List.append_nil] at HTk
              have b3 : Below w2.heap.size w2 w3 := HB.out.trans (bw.mono HB.out.size)
              refine ⟨i + 1, by simp, by omega, ?_, b3.alloc b3.size _⟩
              rw [HLB.out, HTk.out]
              exact Fd.row_past (Fd.row_past HR.out bw (Nat.le_refl _)) ((Below.refl _ w3).alloc (Nat.le_refl _) _) (Nat.le_refl _)
            case measure => simp [intOf]; omega
          | false =>
            rw [hb] at HTk hwh
            go_upto_region 14 with (first
              | (go_at_call 35; refine hwh.mono ?_; clear hwh; rintro e w3 ⟨⟨cc, rfl⟩, bw⟩)
              | fail)
            obtain ⟨w4, hw4⟩ : ∃ W, W = w3.alloc (.cells #[.string cc.room, .int .i64 cc.un, .int .i64 cc.hi] 39) := ⟨_, rfl⟩
            have b34 : Below w3.heap.size w3 w4 := by rw [hw4]; exact (Below.refl _ w3).alloc (Nat.le_refl _) _
            have b4 : Below wr.heap.size wr w4 := Fd.bel_on bw bw.size b34
            have x0 : w4.cell? ⟨g, o + i * 3, none⟩ = some (.string x.room) := (b4.cell (p := ⟨g, o + i * 3, none⟩) hgl).trans c1
            have x1 : w4.cell? ⟨g, o + i * 3 + 1, none⟩ = some (.int .i64 x.un) := (b4.cell (p := ⟨g, o + i * 3 + 1, none⟩) hgl).trans c2
            have x2 : w4.cell? ⟨g, o + i * 3 + 2, none⟩ = some (.int .i64 x.hi) := (b4.cell (p := ⟨g, o + i * 3 + 2, none⟩) hgl).trans c3
            have HR5 : Hid (w4.ownsRow w2.heap.size 39 3 u9 LA.length (cnCells LA)) := Fd.row_past HR.out b4 (Nat.le_refl _)
            have HB5 : Hid (Below w2.heap.size w2 w4) := HB.out.trans (b4.mono HB.out.size)
            rw [← hw4]
            clear hw4 b34 b4 c1 c2 c3 HR HB bw HBw hgl
            go_wp2_with (first
              | (at_builtin; refine Tryz.appCn Tryz.underlying22 rfl _ _ rfl (Fd.row_past HR5.out ((Below.refl _ _).alloc (Nat.le_refl _) _) (Nat.le_refl _)) (by rw [World.size_alloc]; exact Nat.le_succ_of_le HB5.out.size) rfl (Fd.cs_one (x := x) (heap_alloc_new _ _)) rfl HLn.out ?_; intro v6 w6 r6 b6)
              | fail)
            go_roundw
            case rel =>
              refine ⟨i + 1, by simp, by omega, ?_, (HB5.out.alloc HB5.out.size _).trans b6⟩
              have e7 := HTk.out
              simp only [Bool.false_eq_true, if_false] at e7
              rw [HLB.out, e7, List.length_append]
              exact r6
            case measure => simp [intOf]; omega
        · have q1 : ¬ (i : Int) < (la.length : Int) := by omega
          obtain rfl : i = la.length := by omega
          rw [List.take_length, ← HLf.out] at HR
          have HBw : Hid (Below w.heap.size w wr) := HB2.out.trans (HB.out.mono HB2.out.size)
          have hcc := HC.out.1.below HBw.out HC.out.2
          have HLn : Hid ((left la lg).length + lc.length ≤ 4398046511104) := by show _ ≤ _; have := left_len la lg; have := HL.out; omega
          obtain ⟨ac, cc, rfl⟩ := hcc.is
          have HCC : Hid (Cs wr (.slice ac lc.length cc) lc) := hcc
          clear hcc
          go_upto_region 17 with (first
            | (at_builtin; refine Tryz.appCn Tryz.underlying22 rfl _ _ rfl HR.out HB.out.size rfl HCC.out rfl HLn.out ?_; intro v6 w6 r6 b6)
            | fail)
          have hs := Tryz.rSheet_any ((left la lg).length + lc.length) (left la lg ++ lc) (by simp) (by simp; have := left_len la lg; have := HL.out; omega) w6 v6 (Cs.ofRow r6) (fun k e => (r6.lt k e).2)
          rw [ref_fold] at hs
          have HB6 : Hid (Below w.heap.size w w6) := HBw.out.trans (b6.mono HB2.out.size)
          clear r6 b6 HR HB
          go_wp2_with (first
            | (go_at_call 34; refine hs.mono ?_; clear hs; rintro e w7 ⟨V7, rfl, r7, b7⟩)
            | fail)
          go_ret
          exact ⟨_, rfl, Fd.row_mono r7 HB6.out.size, HB6.out.trans (b7.mono HB6.out.size)⟩
end Go.Proofs
namespace Go.Fd
open Go.RowKit Go.Wi
def beh : Cn := ⟨⟨#[98, 101, 104, 105, 110, 100]⟩, 0, 0⟩
def bh4 : List Cn := List.replicate 4 beh
theorem cnCells_push {L : List Cn} {x : Cn} {a b c : Value} {rest : List Value} : (((cnCells L ++ a :: b :: c :: rest).set (L.length * 3) (.string x.room)).set (L.length * 3 + 1) (.int .i64 x.un)).set (L.length * 3 + 2) (.int .i64 x.hi) = cnCells (L ++ [x]) ++ rest := by
  have hl := cnCells_len L
  rw [List.set_append_right _ _ (by omega), List.set_append_right _ _ (by omega), List.set_append_right _ _ (by omega), hl]
  rw [show L.length * 3 - L.length * 3 = 0 by omega, show L.length * 3 + 1 - L.length * 3 = 1 by omega, show L.length * 3 + 2 - L.length * 3 = 2 by omega]
  rw [cnCells_app, List.append_assoc]
  rfl
end Go.Fd
namespace Go.Proofs
open Go.RowKit Go.Wi Go.Fd Go.Sort
theorem Fd.row_fill {B T k g n cap : Nat} : ∀ (vs : List Value) (o : Nat) (w : World) (xs : List Value), w.ownsRow B T k (.slice (some ⟨g, 0, none⟩) n cap) n xs → o + vs.length ≤ xs.length → (w.setCells g o vs).ownsRow B T k (.slice (some ⟨g, 0, none⟩) n cap) n (xs.take o ++ (vs ++ xs.drop (o + vs.length))) ∧ Wo (fun k => k = g) w (w.setCells g o vs)
  | [], o, w, xs, h, _ => by
    simp only [World.setCells, List.nil_append, List.length_nil, Nat.add_zero, List.take_append_drop]
    exact ⟨h, Wo.refl _ _⟩
  | v :: vs, o, w, xs, h, hl => by
    have h1 := (h.stored o v).1
    obtain ⟨h2, h3⟩ := Fd.row_fill vs (o + 1) (w.setCell ⟨g, o, none⟩ v) (xs.set o v) h1 (by rw [List.length_set]; simp at hl; omega)
    simp only [World.setCells]
    have e : (xs.set o v).take (o + 1) ++ (vs ++ (xs.set o v).drop (o + 1 + vs.length)) = xs.take o ++ (v :: vs ++ xs.drop (o + (v :: vs).length)) := by
      have ho : o < xs.length := by simp at hl; omega
      rw [List.drop_set_of_lt (by omega), List.set_eq_take_append_cons_drop, if_pos ho, List.take_append]
      simp only [List.length_cons, List.length_take, List.append_assoc, List.cons_append, Nat.add_assoc, Nat.add_comm 1]
      rw [List.take_of_length_le (by simp; omega), show o + 1 - min o xs.length = 1 by omega]
      rfl
    rw [e] at h2
    exact ⟨h2, ((Wo.refl (fun k => k = g) w).setCell g o v (.inl rfl)).trans h3⟩
set_option maxRecDepth 20000 in
set_option maxHeartbeats 1000000 in
theorem Tryz.rSame_any {w : World} {V U : Value} {a b : List Cn} (h : Cs w V a) (g : Cs w U b) (ha : a.length ≤ 4398046511104) :
    Calls Tryz.prog 15 #[V, U] w fun e w' => e = .returned (.bool (decide (a = b))) ∧ ∃ q, w' = w.drewN q := by
  obtain ⟨ad, cap, rfl⟩ := h.is
  obtain ⟨bd, cbp, rfl⟩ := g.is
  have hmx : Tryz.prog.follows .mixedOrders = true := by kernel_rfl
  by_cases hn : a.length = b.length
  · have HA : Hid (Cs w (.slice ad a.length cap) a) := h
    have HG : Hid (Cs w (.slice bd b.length cbp) b) := g
    have HN : Hid (a.length = b.length) := hn
    clear h g
    obtain ⟨r, hr⟩ : ∃ r, r = decide (a = b) := ⟨_, rfl⟩
    have HR : Hid (r = decide (a = b)) := hr
    rw [← hr]
    clear hr
    rw [hn] at HA ha ⊢
    clear hn
    go_enter Tryz.func15, Tryz.ntmps15
    go_wp2
    go_loopw [5] (fun iv wr => ∃ i : Nat, iv = .int .i64 i ∧ i ≤ b.length ∧ (∀ j, j < i → a[j]! = b[j]!) ∧ ∃ q, wr = w.drewN q) (fun iv _ => b.length - (intOf iv).toNat)
    case atStart => exact ⟨0, rfl, Nat.zero_le _, fun j hj => by omega, 0, rfl⟩
    case round =>
      obtain ⟨i, rfl, hi, hsame, q, rfl⟩ := hrel
      have HS : Hid (∀ j, j < i → a[j]! = b[j]!) := hsame
      clear hsame
      by_cases hlt : i < b.length
      · have q1 : (i : Int) < (b.length : Int) := by omega
        have hla : i < a.length := by rw [HN.out]; exact hlt
        obtain ⟨g1, o1, rfl, c1, c2, c3⟩ := HA.out.at hla
        obtain ⟨g2, o2, rfl, d1, d2, d3⟩ := HG.out.at hlt
        rw [← getElem!_pos a i hla] at c1 c2 c3
        rw [← getElem!_pos b i hlt] at d1 d2 d3
        have C1 : ∀ n, (w.drewN n).cell? ⟨g1, o1 + i * 3, none⟩ = some (.string a[i]!.room) := fun _ => c1
        have C2 : ∀ n, (w.drewN n).cell? ⟨g1, o1 + i * 3 + 1, none⟩ = some (.int .i64 a[i]!.un) := fun _ => c2
        have C3 : ∀ n, (w.drewN n).cell? ⟨g1, o1 + i * 3 + 2, none⟩ = some (.int .i64 a[i]!.hi) := fun _ => c3
        have D1 : ∀ n, (w.drewN n).cell? ⟨g2, o2 + i * 3, none⟩ = some (.string b[i]!.room) := fun _ => d1
        have D2 : ∀ n, (w.drewN n).cell? ⟨g2, o2 + i * 3 + 1, none⟩ = some (.int .i64 b[i]!.un) := fun _ => d2
        have D3 : ∀ n, (w.drewN n).cell? ⟨g2, o2 + i * 3 + 2, none⟩ = some (.int .i64 b[i]!.hi) := fun _ => d3
        clear c1 c2 c3 d1 d2 d3
        generalize hx : a[i]! = x at *
        generalize hy : b[i]! = y at *
        have heq : ∀ W : World, (Op.equalIn 10000 39 (.agg #[.string x.room, .int .i64 x.un, .int .i64 x.hi]) (.agg #[.string y.room, .int .i64 y.un, .int .i64 y.hi])).run Tryz.prog W = .ok (decide (x = y)) W := fun W => Tryz.eqCn x y W
        have hgt : Tryz.prog.eqGuardType Tryz.prog.depth 39 = false := by kernel_rfl
        generalize hd : decide (x = y) = d at *
        go_wp2_with (fail)
        go_quiet (fail)
        cases d with
        | true =>
          go_wp2
          go_roundw
          case rel =>
            refine ⟨i + 1, by simp, by omega, fun j hj => ?_, q + nq, by first | rfl | exact World.drewN_drewN _ _ _⟩
            by_cases hji : j = i
            · subst hji; rw [hx, hy]; exact of_decide_eq_true hd
            · exact HS.out j (by omega)
          case measure => simp [intOf]; omega
        | false =>
          have e : r = false := by
            rw [HR.out]
            refine decide_eq_false fun e => of_decide_eq_false hd ?_
            rw [← hx, ← hy, e]
          subst e
          go_wp2
          go_ret
          exact ⟨rfl, q + nq, World.drewN_drewN _ _ _⟩
      · have q1 : ¬ (i : Int) < (b.length : Int) := by omega
        have e : r = true := by
          rw [HR.out]
          refine decide_eq_true ?_
          apply List.ext_getElem HN.out
          intro j h1 h2
          have := HS.out j (by omega)
          rwa [getElem!_pos a j h1, getElem!_pos b j h2] at this
        subst e
        go_wp2
        go_ret
        exact ⟨rfl, q, rfl⟩
  · clear ha
    have q0 : ¬ ((a.length : Int) = (b.length : Int)) := by omega
    have e : decide (a = b) = false := decide_eq_false (fun e => hn (by rw [e]))
    rw [e]
    clear h g hn e
    go_enter Tryz.func15, Tryz.ntmps15
    go_wp2
    go_ret
    exact ⟨rfl, 0, rfl⟩
theorem Tryz.sizeCn : (Tryz.prog.info? 39).map (·.size) = some 3 := by kernel_rfl
theorem Tryz.someCn : ((Tryz.prog.info? 39).map (·.size)).isSome = true := by kernel_rfl
theorem Fd.run_copy {P : Program} (w : World) (dT sT ty elem : TypeId) (sz b o dLen dCap : Nat) (a : Addr) (sLen sCap : Nat) (cs : List Value)
    (hu : P.underlying dT = some (.slice elem)) (hs : (P.info? elem).map (·.size) = some sz) (hn : cs.length = Nat.min sLen dLen * sz)
    (hsrc : ∀ j v, cs[j]? = some v → w.cell? (a.add j) = some v) (hc : ∀ j, j < cs.length → (w.cell? ⟨b, o + j, none⟩).isSome = true) (hf : ∀ j, j < cs.length → w.frozen? ⟨b, o + j, none⟩ = false) (h1 : ∀ v ∈ cs, v.oneCell' = true) :
    (Builtin.copy_ #[dT, sT] ty #[.slice (some ⟨b, o, none⟩) dLen dCap, .slice (some a) sLen sCap]).run P w = .ok (goInt (Nat.min sLen dLen)) (w.setCells b o cs) := by
  have hl := run_loadCells_list (P := P) w a cs hsrc
  have hst := run_storeCells_cells (P := P) b o cs 0 w (by simpa using hc) (by simpa using hf) h1
  cases hq : P.info? elem with
  | none => simp [hq] at hs
  | some i =>
    have hi : i.size = sz := by simpa [hq] using hs
    simp [Builtin.copy_, run_underlying hu, Builtin.lenOf, Builtin.firstCells, sizeOf, typeInfo, hq, hi, ← hn, hl, hst]
set_option maxRecDepth 20000 in
/-- 'copy' of counts to the head of a longer row. -/
theorem Tryz.copyCn {W : World} {B g n : Nat} {V : Value} {L : List Cn} {xs : List Value} (hV : Cs W V L) (hr : W.ownsRow B 39 3 (.slice (some ⟨g, 0, none⟩) n n) n xs) (hn : L.length ≤ n) :
    ∃ W', (∀ ty, (Builtin.copy_ #[22, 22] ty #[.slice (some ⟨g, 0, none⟩) n n, V]).run Tryz.prog W = .ok (goInt L.length) W') ∧ W'.ownsRow B 39 3 (.slice (some ⟨g, 0, none⟩) n n) n (cnCells L ++ xs.drop (L.length * 3)) ∧ Wo (fun k => k = g) W W' := by
  have hxl : xs.length = n * 3 := hr.1
  rcases hV.nz with rfl | ⟨ad, m, c, rfl⟩
  · obtain ⟨ad, cap, e, h1⟩ := hV.ex
    injection e with e1 e2 e3
    have hL : L = [] := List.eq_nil_of_length_eq_zero e2.symm
    subst hL
    exact ⟨W, fun ty => run_copy_nil Tryz.prog W 22 22 ty 39 _ _ _ Tryz.underlying22 Tryz.someCn, by simpa [cnCells] using hr, Wo.refl _ _⟩
  · have hcs := Fd.cs_cells hV ad rfl
    obtain ⟨ad', cap, e, h1⟩ := hV.ex
    injection e with e1 e2 e3
    subst e1 e2 e3
    obtain ⟨f1, f2⟩ := Fd.row_fill (cnCells L) 0 W xs hr (by rw [cnCells_len]; omega)
    have := fun ty => Fd.run_copy (P := Tryz.prog) W 22 22 ty 39 3 g 0 n n ad L.length c (cnCells L) Tryz.underlying22 Tryz.sizeCn (by rw [cnCells_len]; show _ = min _ _ * 3; rw [Nat.min_eq_left hn]) hcs (fun j hj => by rw [cnCells_len] at hj; rw [Nat.zero_add, hr.cellAt j (by omega), List.getElem?_eq_getElem (by omega)]; rfl) (fun j _ => by rw [Nat.zero_add]; exact hr.frozenAt j) cnCells_one
    rw [show Nat.min L.length n = L.length from Nat.min_eq_left hn] at this
    refine ⟨_, this, ?_, f2⟩
    rw [cnCells_len] at f1
    simpa using f1
set_option maxRecDepth 20000 in
set_option maxHeartbeats 1000000 in
theorem Tryz.roomy_any {w : World} {V : Value} {l : List Cn} (h : Cs w V l) (hV : ∀ k, V.ownBlock = some k → k < w.heap.size) (hl : l.length ≤ 2147483648) :
    Calls Tryz.prog 13 #[V] w fun e w' => e = .returned (.slice (some ⟨w.heap.size, 0, none⟩) (l.length + 4 : Nat) (l.length + 4)) ∧ w'.ownsRow w.heap.size 39 3 (.slice (some ⟨w.heap.size, 0, none⟩) (l.length + 4 : Nat) (l.length + 4)) (l.length + 4) (cnCells (l ++ bh4)) ∧ Below w.heap.size w w' := by
  obtain ⟨ad, cap, rfl⟩ := h.is
  have HC : Hid (Cs w (.slice ad l.length cap) l) := h
  clear h hV
  obtain ⟨i0, hi0, hz0, hz1, hz2⟩ := info_parts Tryz.infoCn
  go_enter Tryz.func13, Tryz.ntmps13
  go_upto_region 2 with (first
    | (at_make; refine wpList_make_full _ rfl _ _ _ rfl w.heap.size 39 i0 _ 3 Tryz.underlying22 hi0 hz0 hz1 _ _ _ _ (l.length + 4) rfl rfl (by omega) (by omega) (by rw [hz2]; omega) (by unfold maxLen; omega) (Nat.le_refl _) ?_; intro w1 hr1 hg1)
    | fail)
  have hL1 : (madeCells (Value.agg #[.string ByteArray.empty, .int .i64 0, .int .i64 0]).cells ((l.length + 4) * 3)).toList.length = (l.length + 4) * 3 := hr1.1
  have hb1 : Below w.heap.size w w1 := (Below.refl _ w).grown hg1 (Nat.le_refl _) (fun k e => by cases e)
  obtain ⟨w2, hrun, hr2, hwo⟩ := Tryz.copyCn (HC.out.past hb1) hr1 (by omega)
  have hb2 : Below w.heap.size w w2 := hwo.toBelow hb1 (fun k e => by rw [e]; exact Nat.le_refl _) hb1.size
  have HR2 : Hid (∃ rest : List Value, rest.length = 4 * 3 ∧ w2.ownsRow w.heap.size 39 3 (.slice (some ⟨w.heap.size, 0, none⟩) (l.length + 4 : Nat) (l.length + 4)) (l.length + 4) (cnCells l ++ rest)) := ⟨_, by rw [List.length_drop, hL1]; omega, hr2⟩
  have HB2 : Hid (Below w.heap.size w w2) := hb2
  clear hL1 hr1 hg1 hb1 hr2 hwo hb2 hi0 hz0 hz1 hz2
  obtain ⟨bg, hbg⟩ : ∃ b, b = w.heap.size := ⟨_, rfl⟩
  have HBG : Hid (bg = w.heap.size) := hbg
  rw [← hbg] at hrun HR2 ⊢
  clear hbg
  go_upto_region 4 with (fail)
  clear hrun
  go_loopw [4] (fun iv wr => ∃ (t : Nat) (rest : List Value), iv = .int .i64 ((l.length : Int) + t) ∧ t ≤ 4 ∧ rest.length = (4 - t) * 3 ∧ wr.ownsRow w.heap.size 39 3 (.slice (some ⟨bg, 0, none⟩) (l.length + 4 : Nat) (l.length + 4)) (l.length + 4) (cnCells (l ++ List.replicate t beh) ++ rest) ∧ Below w.heap.size w wr) (fun iv _ => l.length + 4 - (intOf iv).toNat)
  case atStart =>
    obtain ⟨rest, h1, h2⟩ := HR2.out
    exact ⟨0, rest, by simp, by omega, h1, by rw [← HBG.out]; simpa using h2, HB2.out⟩
  case round =>
    obtain ⟨t, rest, rfl, ht, hrl, hrow, hbel⟩ := hrel
    have HR : Hid (wr.ownsRow w.heap.size 39 3 (.slice (some ⟨bg, 0, none⟩) (l.length + 4 : Nat) (l.length + 4)) (l.length + 4) (cnCells (l ++ List.replicate t beh) ++ rest)) := hrow
    have HB : Hid (Below w.heap.size w wr) := hbel
    clear hrow hbel HR2
    by_cases hlt : t < 4
    · have q1 : (l.length : Int) + (t : Int) < (l.length : Int) + 4 := by omega
      match rest, hrl with
      | [], h => simp at h; omega
      | [_], h => simp at h; omega
      | [_, _], h => simp at h; omega
      | a :: b :: c :: rest, h =>
        obtain ⟨m, hm⟩ : ∃ m, m = l.length + t := ⟨_, rfl⟩
        have hml : (l ++ List.replicate t beh).length = m := by simp [hm]
        have hmi : (l.length : Int) + (t : Int) = (m : Int) := by omega
        have hm4 : m < l.length + 4 := by omega
        have x0 := HR.out.cellAt (m * 3) (by omega)
        have x1 := HR.out.cellAt (m * 3 + 1) (by omega)
        have x2 := HR.out.cellAt (m * 3 + 2) (by omega)
        have hcl : (cnCells (l ++ List.replicate t beh)).length = m * 3 := by rw [cnCells_len, hml]
        rw [List.getElem?_append_right (by omega), hcl] at x0 x1 x2
        rw [show m * 3 - m * 3 = 0 by omega] at x0
        rw [show m * 3 + 1 - m * 3 = 1 by omega] at x1
        rw [show m * 3 + 2 - m * 3 = 2 by omega] at x2
        simp only [List.getElem?_cons_zero, List.getElem?_cons_succ] at x0 x1 x2
        have f0 := HR.out.frozenAt (m * 3)
        have f1 := HR.out.frozenAt (m * 3 + 1)
        have f2 := HR.out.frozenAt (m * 3 + 2)
        have HR5 : Hid ((((wr.setCell ⟨bg, m * 3, none⟩ (.string beh.room)).setCell ⟨bg, m * 3 + 1, none⟩ (.int .i64 beh.un)).setCell ⟨bg, m * 3 + 2, none⟩ (.int .i64 beh.hi)).ownsRow w.heap.size 39 3 (.slice (some ⟨bg, 0, none⟩) (l.length + 4 : Nat) (l.length + 4)) (l.length + 4) (cnCells (l ++ List.replicate (t + 1) beh) ++ rest)) := by
          have h1 := (((HR.out.stored (m * 3) (.string beh.room)).1.stored (m * 3 + 1) (.int .i64 beh.un)).1.stored (m * 3 + 2) (.int .i64 beh.hi)).1
          rw [← hml, cnCells_push, List.append_assoc, ← List.replicate_succ'] at h1
          rw [hml] at h1
          exact h1
        have HB5 : Hid (Below w.heap.size w (((wr.setCell ⟨bg, m * 3, none⟩ (.string beh.room)).setCell ⟨bg, m * 3 + 1, none⟩ (.int .i64 beh.un)).setCell ⟨bg, m * 3 + 2, none⟩ (.int .i64 beh.hi))) := by
          have hb3 : ∀ (W : World) (i : Nat) (v : Value), Below w.heap.size w W → Below w.heap.size w (W.setCell ⟨bg, i, none⟩ v) := fun W i v h => h.setCell (p := ⟨bg, i, none⟩) (by show _ ≤ bg; rw [HBG.out]; exact Nat.le_refl _) v
          exact hb3 _ _ _ (hb3 _ _ _ (hb3 _ _ _ HB.out))
        have HMI : Hid (m = l.length + t) := hm
        simp only [beh] at HR5 HB5
        rw [hmi] at q1 ⊢
        clear hm hml hcl HR HB hmi
        go_wp2
        go_roundw
        case rel => exact ⟨t + 1, rest, by have := HMI.out; simp; omega, by omega, by simp at h; omega, HR5.out, HB5.out⟩
        case measure => have := HMI.out; simp [intOf]; omega
    · have q1 : ¬ (l.length : Int) + (t : Int) < (l.length : Int) + 4 := by omega
      obtain rfl : t = 4 := by omega
      obtain rfl : rest = [] := List.eq_nil_of_length_eq_zero (by omega)
      go_wp2
      go_ret
      have h6 := HR.out
      rw [List.append_nil, HBG.out] at h6
      refine ⟨?_, h6, HB.out⟩
      rw [← HBG.out]
      rfl
set_option maxRecDepth 20000 in
set_option maxHeartbeats 1000000 in
theorem Tryz.stays_any {w : World} {V U : Value} {l : List Cn} (h : Cs w V (l ++ bh4)) (g : Cs w U l) (hl : l.length ≤ 2147483648) :
    Calls Tryz.prog 16 #[V, U] w fun e w' => e = .returned (.bool true) ∧ ∃ q, w' = w.drewN q := by
  obtain ⟨ad, cap, rfl⟩ := h.is
  obtain ⟨bd, cbp, rfl⟩ := g.is
  have hmx : Tryz.prog.follows .mixedOrders = true := by kernel_rfl
  have hn : (l ++ bh4).length = l.length + 4 := by simp [bh4]
  rw [hn] at h ⊢
  have HA : Hid (Cs w (.slice ad (l.length + 4) cap) (l ++ bh4)) := h
  have HG : Hid (Cs w (.slice bd l.length cbp) l) := g
  have HN : Hid ((l ++ bh4).length = l.length + 4) := hn
  have hgt : Tryz.prog.eqGuardType Tryz.prog.depth 39 = false := by kernel_rfl
  clear h g hn
  go_enter Tryz.func16, Tryz.ntmps16
  go_wp2
  go_loopw [5] (fun iv wr => ∃ i : Nat, iv = .int .i64 i ∧ i ≤ l.length + 4 ∧ ∃ q, wr = w.drewN q) (fun iv _ => l.length + 4 - (intOf iv).toNat)
  case atStart => exact ⟨0, rfl, Nat.zero_le _, 0, rfl⟩
  case round =>
    obtain ⟨i, rfl, hi, q, rfl⟩ := hrel
    by_cases hlt : i < l.length + 4
    · have q1 : (i : Int) < (l.length : Int) + 4 := by omega
      obtain ⟨g1, o1, rfl, c1, c2, c3⟩ := HA.out.at (i := i) (by rw [HN.out]; exact hlt)
      by_cases hin : i < l.length
      · have q2 : (i : Int) < (l.length : Int) := by omega
        have q3 : decide (l.length ≤ i) = false := decide_eq_false (by omega)
        rw [List.getElem_append_left hin] at c1 c2 c3
        obtain ⟨g2, o2, rfl, d1, d2, d3⟩ := HG.out.at hin
        generalize l[i] = x at *
        have C1 : ∀ n, (w.drewN n).cell? ⟨g1, o1 + i * 3, none⟩ = some (.string x.room) := fun _ => c1
        have C2 : ∀ n, (w.drewN n).cell? ⟨g1, o1 + i * 3 + 1, none⟩ = some (.int .i64 x.un) := fun _ => c2
        have C3 : ∀ n, (w.drewN n).cell? ⟨g1, o1 + i * 3 + 2, none⟩ = some (.int .i64 x.hi) := fun _ => c3
        have D1 : ∀ n, (w.drewN n).cell? ⟨g2, o2 + i * 3, none⟩ = some (.string x.room) := fun _ => d1
        have D2 : ∀ n, (w.drewN n).cell? ⟨g2, o2 + i * 3 + 1, none⟩ = some (.int .i64 x.un) := fun _ => d2
        have D3 : ∀ n, (w.drewN n).cell? ⟨g2, o2 + i * 3 + 2, none⟩ = some (.int .i64 x.hi) := fun _ => d3
        have heq : ∀ W : World, (Op.equalIn 10000 39 (.agg #[.string x.room, .int .i64 x.un, .int .i64 x.hi]) (.agg #[.string x.room, .int .i64 x.un, .int .i64 x.hi])).run Tryz.prog W = .ok true W := fun W => by
          have := Tryz.eqCn x x W
          rwa [decide_eq_true rfl] at this
        clear c1 c2 c3 d1 d2 d3
        go_wp2_with (fail)
        go_quiet (fail)
        go_wp2
        go_roundw
        case rel => exact ⟨i + 1, by simp, by omega, q + nq, by first | rfl | exact World.drewN_drewN _ _ _⟩
        case measure => simp [intOf]; omega
      · have q2 : ¬ (i : Int) < (l.length : Int) := by omega
        have q3 : decide (l.length ≤ i) = true := decide_eq_true (by omega)
        have hx : (l ++ bh4)[i]'(by rw [HN.out]; exact hlt) = beh := by
          rw [List.getElem_append_right (by omega)]
          exact List.getElem_replicate _
        rw [hx] at c1 c2 c3
        simp only [beh] at c1 c2 c3
        have C1 : ∀ n, (w.drewN n).cell? ⟨g1, o1 + i * 3, none⟩ = some (.string ⟨#[98, 101, 104, 105, 110, 100]⟩) := fun _ => c1
        have C2 : ∀ n, (w.drewN n).cell? ⟨g1, o1 + i * 3 + 1, none⟩ = some (.int .i64 0) := fun _ => c2
        have C3 : ∀ n, (w.drewN n).cell? ⟨g1, o1 + i * 3 + 2, none⟩ = some (.int .i64 0) := fun _ => c3
        have heq : ∀ W : World, (Op.equalIn 10000 39 (.agg #[.string ⟨#[98, 101, 104, 105, 110, 100]⟩, .int .i64 0, .int .i64 0]) (.agg #[.string ⟨#[98, 101, 104, 105, 110, 100]⟩, .int .i64 0, .int .i64 0])).run Tryz.prog W = .ok true W := fun W => by
          have := Tryz.eqCn beh beh W
          rwa [decide_eq_true rfl] at this
        clear c1 c2 c3 hx
        go_wp2_with (fail)
        go_quiet (fail)
        go_wp2
        go_roundw
        case rel => exact ⟨i + 1, by simp, by omega, q + nq, by first | rfl | exact World.drewN_drewN _ _ _⟩
        case measure => simp [intOf]; omega
    · have q1 : ¬ (i : Int) < (l.length : Int) + 4 := by omega
      go_wp2
      go_ret
      exact ⟨rfl, q, rfl⟩
set_option maxRecDepth 20000 in
set_option maxHeartbeats 1000000 in
theorem Tryz.sameTexts_any {w : World} {V U : Value} {l : List ByteArray} (h : Ts w V l) (g : Ts w U l) (hl : l.length ≤ 2147483648) :
    Calls Tryz.prog 17 #[V, U] w fun e w' => e = .returned (.bool true) ∧ ∃ q, w' = w.drewN q := by
  obtain ⟨ad, cap, rfl⟩ := h.is
  obtain ⟨bd, cbp, rfl⟩ := g.is
  have hmx : Tryz.prog.follows .mixedOrders = true := by kernel_rfl
  have HA : Hid (Ts w (.slice ad l.length cap) l) := h
  have HG : Hid (Ts w (.slice bd l.length cbp) l) := g
  clear h g
  go_enter Tryz.func17, Tryz.ntmps17
  go_wp2
  go_loopw [5] (fun iv wr => ∃ i : Nat, iv = .int .i64 i ∧ i ≤ l.length ∧ ∃ q, wr = w.drewN q) (fun iv _ => l.length - (intOf iv).toNat)
  case atStart => exact ⟨0, rfl, Nat.zero_le _, 0, rfl⟩
  case round =>
    obtain ⟨i, rfl, hi, q, rfl⟩ := hrel
    by_cases hlt : i < l.length
    · have q1 : (i : Int) < (l.length : Int) := by omega
      obtain ⟨g1, o1, rfl, c1⟩ := HA.out.at hlt
      obtain ⟨g2, o2, rfl, d1⟩ := HG.out.at hlt
      generalize l[i] = x at *
      have C1 : ∀ n, (w.drewN n).cell? ⟨g1, o1 + i, none⟩ = some (.string x) := fun _ => c1
      have D1 : ∀ n, (w.drewN n).cell? ⟨g2, o2 + i, none⟩ = some (.string x) := fun _ => d1
      clear c1 d1
      go_wp2_with (fail)
      go_quiet (fail)
      go_wp2
      go_roundw
      case rel => exact ⟨i + 1, by simp, by omega, q + nq, by first | rfl | exact World.drewN_drewN _ _ _⟩
      case measure => simp [intOf]; omega
    · have q1 : ¬ (i : Int) < (l.length : Int) := by omega
      go_wp2
      go_ret
      exact ⟨rfl, q, rfl⟩
end Go.Proofs
