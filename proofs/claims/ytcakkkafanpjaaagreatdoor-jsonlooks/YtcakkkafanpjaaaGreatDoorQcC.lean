/-
  Laid together by packg.py of TqC TqD TqE.
-/
import Derived.Test.YtcakkkafanpjaaaGreatDoorQcA
import Derived.Test.YtcakkkafanpjaaaGreatDoorQaY
import Derived.Test.YtcakkkafanpjaaaGreatDoorQaI
import Derived.Test.YtcakkkafanpjaaaGreatDoorQcB
namespace Go.Proofs
open Go.RowKit Go.Jv
set_option maxHeartbeats 1000000 in
theorem Tryz.app_markk {ops : Array Oper} {rest : List Oper} {o : Oper} {a : Act} {Q : Exit → Act → World → Prop} (hgd : o.guard = none) (s x : Operand)
    (ho : o.op = .call { callee := .builtin .append, args := #[s, x], argTypes := #[34, 34] })
    (w : World) (v : Value) (hs : a.eval s = v) (m : Nat) (hx : a.eval x = .slice (some ⟨w.heap.size, 0, none⟩) m m) (lo hi n : Nat) (mk : ByteArray) (hO : Tryz.Own w v lo hi (List.replicate n mk)) (hl : n ≤ 1000000) (hm0 : 0 < m) (hm1 : m ≤ 1000) (hlo : lo ≤ w.heap.size)
    (h : ∀ ax cx w', Jv.Rr w' (.slice ax (n + m) cx) (List.replicate (n + m) mk) (fun _ => True) → Tryz.Own w' v lo hi (List.replicate n mk) → Below lo w w' → (∀ v' k, k ≤ n + m → Jv.Rr w v' (List.replicate k mk) (fun _ => True) → Jv.Rr w' v' (List.replicate k mk) (fun _ => True)) → (∀ k, k < w.heap.size → hi ≤ k → w'.heap[k]? = w.heap[k]?) → wpList Tryz.prog ops Q rest (a.put o.dst (.slice ax (n + m) cx)) w') :
    wpList Tryz.prog ops Q (o :: rest) a (w.alloc (.cells (Jv.txts (List.replicate m mk)).toArray 9)) := by
  obtain ⟨i0, hi0, hz0, hz1, hz2⟩ := info_parts Tryz.info_str
  have hln : (List.replicate n mk).length = n := by simp
  have hb0 := (Below.refl w.heap.size w).alloc (Nat.le_refl _) (.cells (Jv.txts (List.replicate m mk)).toArray 9)
  have hnl : (Jv.txts (List.replicate m mk)).length = m * 1 := by rw [Jv.txts_len]; simp
  have hnc : ∀ (j : Nat) u, (Jv.txts (List.replicate m mk))[j]? = some u → (w.alloc (.cells (Jv.txts (List.replicate m mk)).toArray 9)).cell? ((⟨w.heap.size, 0, none⟩ : Addr).add j) = some u := World.news_of_block (cs := (Jv.txts (List.replicate m mk)).toArray) (t := 9) (fr := (0, 0)) (heap_alloc_new w _)
  have hone : ∀ u ∈ Jv.txts (List.replicate m mk), u.oneCell' = true := fun u hu => by obtain ⟨X, _, rfl⟩ := List.mem_map.1 hu; rfl
  have hsz : (w.alloc (.cells (Jv.txts (List.replicate m mk)).toArray 9)).heap.size = w.heap.size + 1 := by simp
  have hta : Jv.txts (List.replicate n mk) ++ Jv.txts (List.replicate m mk) = Jv.txts (List.replicate (n + m) mk) := by rw [← Jv.rep_app]; simp [Jv.txts]
  have hOa : Tryz.Own (w.alloc (.cells (Jv.txts (List.replicate m mk)).toArray 9)) v lo hi (List.replicate n mk) := hO.keep (fun g _ h2 => Below.heap_alloc w _ g (Nat.lt_of_lt_of_le h2 hO.siz)) hb0.size
  have fresh : ∀ v' w', w'.ownsRow (w.alloc (.cells (Jv.txts (List.replicate m mk)).toArray 9)).heap.size 9 1 v' (n + m) (Jv.txts (List.replicate n mk) ++ Jv.txts (List.replicate m mk)) → (w.alloc (.cells (Jv.txts (List.replicate m mk)).toArray 9)).grownBy w' none → wpList Tryz.prog ops Q rest (a.put o.dst v') w' := by
    intro v' w' hown hgr
    have hbb : Below w.heap.size w w' := hb0.grown hgr (by simp) (fun k hk => by cases hk)
    obtain ⟨g', cap', rfl, hb', hlt'⟩ := hown.form (by omega)
    refine h _ _ w' ⟨_, cap', by simp, .inr ⟨g', rfl, trivial, hlt', fun j X hX => ?_⟩⟩ (hO.keep (fun g _ h2 => hbb.block g (Nat.lt_of_lt_of_le h2 hO.siz)) hbb.size) (hbb.mono hlo) (fun v' k _ hr => hr.keep (fun g _ hg => hbb.block g hg) hbb.size) (fun k hk _ => hbb.block k hk)
    have hj := (List.getElem?_eq_some_iff.1 hX).1
    simp at hj
    rw [hown.cellAt j (by omega), hta]
    exact Jv.txts_at hX
  rcases hO.row.2 with ⟨h1, h2⟩ | ⟨g, cap, cur, h1, hb, hg, hcap, _⟩
  · rw [hln] at h2
    subst h2
    exact wpList_append_grows _ hgd s x 34 ho 9 i0 _ 1 16 Tryz.underlying34 hi0 hz0 hz1 hz2 rfl (by omega) none 0 0 [] (hs.trans h1) (by simp) rfl (fun b hb => by cases hb) ⟨w.heap.size, 0, none⟩ m m (Jv.txts (List.replicate m mk)) hx hnl hnc hone (by omega) (by unfold maxLen; omega) (by omega) fresh
  · have hglt := (Array.getElem?_eq_some_iff.1 hg).1
    have hghi := hO.blk g (by rw [h1]; rfl)
    have hown0 := hOa.row
    rw [h1, hln] at hown0
    rw [hln] at h1 hcap
    by_cases hfit : n + m ≤ cap
    · refine wpList_append_fits _ hgd s x 34 ho lo 9 i0 1 Tryz.underlying34 hi0 hz1 g n cap (Jv.txts (List.replicate n mk)) (hs.trans h1) hown0 ⟨w.heap.size, 0, none⟩ m m (Jv.txts (List.replicate m mk)) hx hnl hnc hone hfit ?_
      intro w' hown hgr
      have hsw := hgr.size
      have hblk : ∀ k, k < w.heap.size → k ≠ g → w'.heap[k]? = w.heap[k]? := fun k hk hne => (hgr.block k (by omega) (fun e => hne (Option.some.inj e))).trans (Below.heap_alloc w _ k hk)
      have hcells : ∀ j, j < n + m → w'.cell? ⟨g, j, none⟩ = some (.string mk) := fun j hj => by
        rw [hown.cellAt j (by omega), hta]
        exact Jv.txts_at (X := mk) (by rw [List.getElem?_replicate, if_pos hj])
      refine h _ _ w' ⟨_, cap, by simp, .inr ⟨g, rfl, trivial, by omega, fun j X hX => ?_⟩⟩ ?_ ⟨hgr.os, hgr.tape, hgr.output, by omega, fun k hk => hblk k (by omega) (by omega)⟩ (fun v' k hk hr => ?_) (fun k hk hk2 => hblk k hk (by omega))
      · have hj := (List.getElem?_eq_some_iff.1 hX).1
        rw [List.length_replicate] at hj
        rw [List.getElem?_replicate, if_pos hj] at hX
        rw [hcells j hj, Option.some.inj hX]
      · refine ⟨⟨by rw [Jv.txts_len]; simp, .inr ?_⟩, hO.blk, by have := hO.siz; omega⟩
        rcases hown.2 with ⟨e, _⟩ | ⟨g', cap', cur', e, hb', hg', hc', hm', hz', ht'⟩
        · cases e
        · cases e
          refine ⟨g, cap, cur', by rw [hln]; exact h1, hb, hg', by rw [hln]; exact hcap, hm', hz', ?_⟩
          have := congrArg (List.take (n * 1)) ht'
          rw [List.take_take, Nat.min_eq_left (by omega)] at this
          rw [hln, this, List.take_left' (by rw [Jv.txts_len]; simp)]
      · obtain ⟨a2, c2, e2, hr2⟩ := hr
        refine ⟨a2, c2, e2, ?_⟩
        rcases hr2 with hr2 | ⟨g2, e3, -, hg2, hc2⟩
        · exact .inl hr2
        · refine .inr ⟨g2, e3, trivial, by omega, fun j X hX => ?_⟩
          by_cases hgg : g2 = g
          · subst hgg
            have hj := (List.getElem?_eq_some_iff.1 hX).1
            rw [List.length_replicate] at hj
            rw [List.getElem?_replicate, if_pos hj] at hX
            rw [hcells j (by omega), Option.some.inj hX]
          · rw [World.cell?_of_block (a := ⟨g2, j, none⟩) (hblk g2 hg2 hgg)]
            exact hc2 j X hX
    · refine wpList_append_grows _ hgd s x 34 ho 9 i0 _ 1 16 Tryz.underlying34 hi0 hz0 hz1 hz2 rfl (by omega) (some ⟨g, 0, none⟩) n cap (Jv.txts (List.replicate n mk)) (hs.trans h1) (by simp) (by rw [Jv.txts_len]; simp) (fun b hb j u hj => ?_) ⟨w.heap.size, 0, none⟩ m m (Jv.txts (List.replicate m mk)) hx hnl hnc hone (by omega) (by unfold maxLen; omega) (by omega) fresh
      cases hb
      have hadd : (⟨g, 0, none⟩ : Addr).add j = ⟨g, j, none⟩ := by unfold Addr.add; split <;> simp_all
      rw [hadd]
      have hj' := (List.getElem?_eq_some_iff.1 hj).1
      rw [Jv.txts_len, hln] at hj'
      rw [hown0.cellAt j (by omega)]; exact hj
set_option maxRecDepth 100000 in
set_option maxHeartbeats 4000000 in
theorem Tryz.paths_more (s : ByteArray) (hs : s.size ≤ 140737488351232) (mk : ByteArray) (w : World) (hT : Tryz.Tb w) :
    Calls Tryz.prog 13 #[.string s, .string mk] w fun en w' => ∃ rv g, en = .returned (.tuple #[rv, .slice (some ⟨g, 0, none⟩) 4 4, .bool true]) ∧ Jv.Fours w' g mk ∧ Below w.heap.size w w' ∧ Jv.Rr w' rv (lst s) (fun _ => True) := by
  have hp := Tryz.path_evp s (by omega) w hT
  have hq := fun W => Tryz.refPath_r s (by omega) W
  have hf := fun W ev hW => Tryz.fault_ev s W ev hW
  clear hT
  generalize lst s = l at *
  generalize pP s = P at *
  generalize pE s = E at *
  go_enter Tryz.func13, Tryz.ntmps13
  go_wp2_with (first
    | (go_at_call 26; refine hp.mono ?_; clear hp; rintro e1 w1 ⟨a, c, ev, rfl, o1, hl, hb1, v1⟩)
    | (go_at_call 27; refine (hq _).mono ?_; clear hq; rintro e2 w2 ⟨ar, cr, rfl, r2, hb2⟩; have v2 := v1.below hb2)
    | (go_at_call 22; refine (hf _ _ v2).mono ?_; clear hf v1; rintro e3 w3 ⟨rfl, hb3⟩)
    | fail)
  have z1 := hb1.size
  have z2 := hb2.size
  have oa3 := (o1.keep (fun g _ h => hb2.block g h) hb2.size).off hb3 (.inr (Nat.zero_le _))
  have rr3 := r2.off hb3 (fun g _ h => by omega)
  have hbb := Jv.bthen0 (Jv.bthen0 hb1 hb2) (Jv.same0 hb3)
  clear o1 r2 hb1 hb2 hb3 v2
  have OA : Hid _ := oa3
  have RX : Hid _ := rr3
  clear oa3 rr3
  generalize w1.heap.size = n1 at *
  have z3 := hbb.size
  go_loopw [15] (fun i wr => ∃ k : Nat, k ≤ l.length ∧ i = .int .i64 k ∧ Tryz.Own wr (.slice a l.length c) w.heap.size n1 (List.replicate k mk ++ l.drop k) ∧ Jv.Off w.heap.size n1 w3 wr) (fun i _ => l.length - (intOf i).toNat)
  case atStart => exact ⟨0, by omega, rfl, OA.out, Jv.Off.refl _ _ _⟩
  case round =>
    obtain ⟨k, hk, rfl, ho, hoff⟩ := hrel
    by_cases hlk : k < l.length
    · have q0 : (k : Int) < (l.length : Int) := by omega
      obtain ⟨X, hX⟩ : ∃ X, l[k]? = some X := ⟨_, List.getElem?_eq_getElem hlk⟩
      obtain ⟨ga, rfl, -, hg1, hg2, hg3, c1, f1⟩ := ho.at ((Jv.rep_at mk hlk).trans hX)
      obtain ⟨gc, rfl, -, -, c2⟩ := (RX.out.off hoff (fun g h1 h2 => by omega)).at hX
      have HO : Hid _ := ho
      have HF : Hid _ := hoff
      clear ho hoff hX
      go_wp2_with fail
      go_quiet (fail)
      go_wp2
      go_roundw
      case rel =>
        refine ⟨k + 1, by omega, by go_num, ?_, (HF.out.same (by rfl) (by rfl) (by rfl) (by rfl)).set hg1 hg2⟩
        rw [← Jv.rep_set mk hlk]
        exact (HO.out.keep (w' := wr.drewN _) (fun _ _ _ => rfl) (Nat.le_refl _)).set (Jv.rep_len mk hk).symm k mk
      case measure => simp [intOf]; omega
    · have q0 : ¬ (k : Int) < (l.length : Int) := by omega
      rw [Jv.rep_full mk (by omega)] at ho
      have hbb4 := hbb.trans (hoff.below.mono (Nat.le_refl _))
      have zo := Nat.le_of_eq hoff.size.symm
      have RX7 : Hid (Jv.Rr wr (.slice ar l.length cr) l (fun g => n1 ≤ g)) := RX.out.off hoff (fun g h1 h2 => by omega)
      clear OA RX hbb hoff
      have OA : Hid _ := ho
      clear ho
      obtain ⟨W7, hW⟩ : ∃ W : World, W = wr := ⟨_, rfl⟩
      subst hW
      have OA7 := OA.out
      clear OA
      go_wp2_with (first
        | (at_builtin; refine Tryz.app_markk rfl _ _ rfl W7 (.slice a l.length c) rfl 1 rfl w.heap.size n1 l.length mk OA7 (by omega) (by omega) (by omega) (by omega) ?_; clear OA7; intro a1 c1 w8 r8 o8 hb8 hk8 hf8; have z8 := hb8.size; have RX8 : Hid (Jv.Rr w8 (.slice ar l.length cr) l (fun g => n1 ≤ g)) := RX7.out.keep (fun g h1 h2 => hf8 g h2 h1) hb8.size; clear hf8)
        | (at_builtin; refine Tryz.app_markk rfl _ _ rfl w8 (.slice a l.length c) rfl 2 rfl w.heap.size n1 l.length mk o8 (by omega) (by omega) (by omega) (by omega) ?_; clear o8; intro a2 c2 w9 r9 o9 hb9 hk9 hf9; have z9 := hb9.size; have RX9 : Hid (Jv.Rr w9 (.slice ar l.length cr) l (fun g => n1 ≤ g)) := RX8.out.keep (fun g h1 h2 => hf9 g h2 h1) hb9.size; clear hf9)
        | (at_builtin; refine Tryz.app_markk rfl _ _ rfl w9 (.slice a l.length c) rfl 3 rfl w.heap.size n1 l.length mk o9 (by omega) (by omega) (by omega) (by omega) ?_; clear o9; intro a3 c3 w10 r10 o10 hb10 hk10 hf10; have RX10 : Hid (Jv.Rr w10 (.slice ar l.length cr) l (fun g => n1 ≤ g)) := RX9.out.keep (fun g h1 h2 => hf10 g h2 h1) hb10.size; clear hf10)
        | fail)
      go_ret3
      have hbz := ((hbb4.trans hb8).trans hb9).trans hb10
      have hba := (Below.refl w10.heap.size w10).alloc (Nat.le_refl _) (.cells #[.slice a l.length c, .slice a1 (l.length + 1) c1, .slice a2 (l.length + 2) c2, .slice a3 (l.length + 3) c3] 34)
      have k0 := (o10.rr.mono (ok' := fun _ => True) (fun _ _ _ => trivial)).keep (fun g _ hg => hba.block g hg) hba.size
      have k1 := (hk10 _ (l.length + 1) (by omega) (hk9 _ (l.length + 1) (by omega) r8)).keep (fun g _ hg => hba.block g hg) hba.size
      have k2 := (hk10 _ (l.length + 2) (by omega) r9).keep (fun g _ hg => hba.block g hg) hba.size
      have k3 := r10.keep (fun g _ hg => hba.block g hg) hba.size
      refine ⟨_, w10.heap.size, rfl, ⟨by simp, fun j hj => ?_⟩, hbz.alloc hbz.size _, (RX10.out.keep (fun g _ hg => hba.block g hg) hba.size).mono (fun _ _ _ => trivial)⟩
      have h4 : j = 0 ∨ j = 1 ∨ j = 2 ∨ j = 3 := by omega
      rcases h4 with rfl | rfl | rfl | rfl
      · exact ⟨_, _, _, cell_of_row _ _ 0 _ _ _ (heap_alloc_new w10 _), k0, by omega⟩
      · exact ⟨_, _, _, cell_of_row _ _ 1 _ _ _ (heap_alloc_new w10 _), k1, by omega⟩
      · exact ⟨_, _, _, cell_of_row _ _ 2 _ _ _ (heap_alloc_new w10 _), k2, by omega⟩
      · exact ⟨_, _, _, cell_of_row _ _ 3 _ _ _ (heap_alloc_new w10 _), k3, by omega⟩
end Go.Proofs
namespace Go.Proofs
open Go.RowKit Go.Jv
/-- A block with N texts, each as f says. -/
structure Jv.Rs (w : World) (g N : Nat) (f : Nat → ByteArray) : Prop where
  lt : g < w.heap.size
  cell : ∀ j, j < N → w.cell? ⟨g, j, none⟩ = some (.string (f j))
  fz : ∀ j, j < N → w.frozen? ⟨g, j, none⟩ = false
theorem Jv.Rs.set {w : World} {g N : Nat} {f : Nat → ByteArray} (h : Jv.Rs w g N f) {i : Nat} (hi : i < N) (c : ByteArray) : Jv.Rs (w.setCell ⟨g, i, none⟩ (.string c)) g N (fun j => if j = i then c else f j) := by
  refine ⟨by simpa using h.lt, fun j hj => ?_, fun j hj => by rw [World.frozen?_setCell]; exact h.fz j hj⟩
  by_cases hji : j = i
  · subst hji
    rw [World.cell?_setCell_same _ _ _ (h.cell j hj)]
    simp
  · rw [World.cell?_setCell_other _ _ _ _ (fun e => hji (by injection e with e1 e2; exact e2.symm)), h.cell j hj]
    simp [hji]
theorem Jv.Rs.below {w w' : World} {g N : Nat} {f : Nat → ByteArray} {B : Nat} (h : Jv.Rs w g N f) (hb : Below B w w') (hg : g < B) : Jv.Rs w' g N f :=
  ⟨Nat.lt_of_lt_of_le h.lt hb.size, fun j hj => (hb.cell (p := ⟨g, j, none⟩) hg).trans (h.cell j hj), fun j hj => (World.frozen?_of_block (a := ⟨g, j, none⟩) (hb.block g hg)).trans (h.fz j hj)⟩
theorem Tryz.infoStr : (Tryz.prog.info? 9).map (fun i => (i.zero, i.size, i.bytes)) = some (some (.string ⟨#[]⟩), 1, 16) := by kernel_rfl
theorem Tryz.size1Str : (Tryz.prog.info? 9).map (·.size) = some 1 := by kernel_rfl
theorem Tryz.makeRs {ops : Array Oper} {rest : List Oper} {o : Oper} {a : Act} {Q : Exit → Act → World → Prop} {w : World} (hgd : o.guard = none) (l c : Operand) (hop : o.op = Op.makeSlice 34 l c)
    (L : Int) (n : Nat) (hl : a.eval l = .int .i64 L) (hc : a.eval c = .int .i64 L) (hL : L = (n : Int)) (hn : n ≤ 8796093022208)
    (hK : ∀ w', Jv.Rs w' w.heap.size n (fun _ => ⟨#[]⟩) → Below w.heap.size w w' → wpList Tryz.prog ops Q rest (a.put o.dst (.slice (some ⟨w.heap.size, 0, none⟩) n n)) w') (h0 : 0 < n) : wpList Tryz.prog ops Q (o :: rest) a w := by
  obtain ⟨i0, hi0, hz0, hz1, hz2⟩ := info_parts Tryz.infoStr
  refine wpList_make_full w hgd l c 34 hop w.heap.size 9 i0 (.string ⟨#[]⟩) 1 Tryz.underlying34 hi0 hz0 hz1 .i64 .i64 L L n hl hc hL hL (by rw [hz2]; omega) (by unfold maxLen; omega) (Nat.le_refl _) ?_
  intro w' hown hg
  refine hK w' ?_ ((Below.refl _ w).grown hg (Nat.le_refl _) fun k e => by cases e)
  have e2 : (madeCells (Value.string ⟨#[]⟩).cells (n * 1)).toList = List.replicate n (.string ⟨#[]⟩) := by
    rw [show (Value.string ⟨#[]⟩).cells = #[.string ⟨#[]⟩] from rfl, toList_madeCells_one, Nat.mul_one]
  rw [e2] at hown
  rcases hown.2 with ⟨e, e0⟩ | ⟨g, cap, cur, e, hB, hgg, k1, k2, k3, k4⟩
  · omega
  · injection e with e1 e3 e4
    injection e1 with e1
    injection e1 with e1
    subst e1
    refine ⟨(Array.getElem?_eq_some_iff.1 hgg).1, fun j hj => ?_, fun j hj => frozen_of_row _ _ _ _ _ hgg⟩
    rw [cell_of_row _ _ _ _ _ _ hgg]
    have hq : (cur.toList.take (n * 1))[j]? = some (.string ⟨#[]⟩) := by rw [k4]; simp [hj]
    rw [List.getElem?_take] at hq
    split at hq
    · rw [← Array.getElem?_toList]; exact hq
    · cases hq
/-- copy of the texts that came in, into a row made. -/
theorem Tryz.copyRs {w : World} {g N : Nat} {f : Nat → ByteArray} (h : Jv.Rs w g N f) {bv : Value} {l : List ByteArray} (hB : Jv.Pa w bv l) (hl : l.length ≤ N) (B : Nat) (w0 : World) (hb : Below B w0 w) (hBg : B ≤ g) :
    ∃ w', (∀ ty, (Builtin.copy_ #[34, 34] ty #[.slice (some ⟨g, 0, none⟩) N N, bv]).run Tryz.prog w = .ok (goInt l.length) w') ∧ Jv.Rs w' g N (fun j => if j < l.length then l.getD j emp else f j) ∧ Below B w0 w' := by
  obtain ⟨-, ad, cap, rfl, h1⟩ := hB.ex
  rcases h1 with rfl | ⟨sb, so, rfl, _, h2⟩
  · refine ⟨w, fun ty => run_copy_none (P := Tryz.prog) w _ _ ty 9 _ _ _ _ _ _ Tryz.underlying34 Tryz.size1Str (Nat.zero_min N), ?_, hb⟩
    have e : (fun j => if j < ([] : List ByteArray).length then ([] : List ByteArray).getD j emp else f j) = f := funext fun j => if_neg (Nat.not_lt_zero j)
    rw [e]
    exact h
  · have hcl : (l.map Value.string).length = l.length := List.length_map ..
    have hrun := fun ty => run_copy_cells (P := Tryz.prog) w 34 34 ty 9 g 0 N N ⟨sb, so, none⟩ l.length cap (l.map Value.string) Tryz.underlying34 Tryz.size1Str (by rw [hcl]; exact (Nat.min_eq_left hl).symm) (fun j u hj => by
      have hjl := (List.getElem?_eq_some_iff.1 hj).1
      rw [hcl] at hjl
      rw [List.getElem?_map, List.getElem?_eq_getElem hjl] at hj
      injection hj with hj
      rw [Addr.add_mid, ← hj]
      exact h2 j hjl) (fun j hj => by rw [Nat.zero_add, h.cell j (by omega)]; rfl) (fun j hj => by rw [Nat.zero_add]; exact h.fz j (by omega)) (fun u hu => by
      obtain ⟨b, _, rfl⟩ := List.mem_map.1 hu
      rfl)
    rw [hcl] at hrun
    refine ⟨_, hrun, ⟨?_, fun j hj => ?_, fun j hj => by rw [World.frozen?_setCells]; exact h.fz j hj⟩, Jv.below_setCells hBg _ _ _ _ hb⟩
    · exact Nat.lt_of_lt_of_le h.lt (Jv.below_setCells (B := 0) (Nat.zero_le _) _ _ w w (Below.refl _ _)).size
    · by_cases hjt : j < l.length
      · have := World.cell?_setCells_in g (l.map Value.string) 0 w (fun i hi => by rw [Nat.zero_add, h.cell i (by omega)]; rfl) j (by omega)
        rw [Nat.zero_add] at this
        rw [this]
        simp [hjt, List.getD_eq_getElem?_getD]
      · rw [World.cell?_setCells_out g _ _ w _ (fun _ _ => .inr (by show 0 + _ ≤ j; omega)), h.cell j hj]
        simp [hjt]
end Go.Proofs
namespace Go.Proofs
open Go.RowKit Go.Jv
def Jv.behind : ByteArray := ⟨#[98, 101, 104, 105, 110, 100]⟩
def Jv.over : ByteArray := ⟨#[111, 118, 101, 114]⟩
/-- The list as it is laid, up to a place. -/
structure Jv.Hn (w0 w : World) (l : List ByteArray) (N i : Nat) : Prop where
  ex : ∃ f, Jv.Rs w w0.heap.size N f ∧ (∀ j (hj : j < l.length), f j = l[j]) ∧ ∀ j, l.length ≤ j → j < i → f j = Jv.behind
  be : Below w0.heap.size w0 w
/-- .. and as it is written over, from a place on as it was. -/
structure Jv.Ho (w0 w : World) (l : List ByteArray) (N i : Nat) : Prop where
  ex : ∃ f, Jv.Rs w w0.heap.size N f ∧ (∀ j (hj : j < l.length), i ≤ j → f j = l[j]) ∧ ∀ j, l.length ≤ j → i ≤ j → j < N → f j = Jv.behind
  be : Below w0.heap.size w0 w
theorem Jv.Hn.step {w0 w : World} {l : List ByteArray} {N i : Nat} (h : Jv.Hn w0 w l N i) (hi : i < N) (ht : l.length ≤ i) : Jv.Hn w0 (w.setCell ⟨w0.heap.size, i, none⟩ (.string Jv.behind)) l N (i + 1) := by
  obtain ⟨f, h1, h2, h3⟩ := h.ex
  refine ⟨⟨_, h1.set hi Jv.behind, fun j hj => ?_, fun j h4 h5 => ?_⟩, h.be.setCell (p := ⟨w0.heap.size, i, none⟩) (Nat.le_refl _) _⟩
  · have : ¬ j = i := by omega
    simp only [this, if_false]
    exact h2 j hj
  · by_cases e : j = i
    · simp only [e, if_true]
    · simp only [e, if_false]
      exact h3 j h4 (by omega)
theorem Jv.Ho.step {w0 w : World} {l : List ByteArray} {N i : Nat} (h : Jv.Ho w0 w l N i) (hi : i < N) : Jv.Ho w0 (w.setCell ⟨w0.heap.size, i, none⟩ (.string Jv.over)) l N (i + 1) := by
  obtain ⟨f, h1, h2, h3⟩ := h.ex
  refine ⟨⟨_, h1.set hi Jv.over, fun j hj h4 => ?_, fun j h4 h5 h6 => ?_⟩, h.be.setCell (p := ⟨w0.heap.size, i, none⟩) (Nat.le_refl _) _⟩
  · have : ¬ j = i := by omega
    simp only [this, if_false]
    exact h2 j hj (by omega)
  · have : ¬ j = i := by omega
    simp only [this, if_false]
    exact h3 j h4 (by omega) h6
theorem Jv.Rs.drewN {w : World} {g N : Nat} {f : Nat → ByteArray} (h : Jv.Rs w g N f) (n : Nat) : Jv.Rs (w.drewN n) g N f := ⟨h.lt, h.cell, h.fz⟩
theorem Jv.Ho.drewN {w0 w : World} {l : List ByteArray} {N i : Nat} (h : Jv.Ho w0 w l N i) (n : Nat) : Jv.Ho w0 (w.drewN n) l N i := by
  obtain ⟨f, h1, h2, h3⟩ := h.ex
  exact ⟨⟨f, h1.drewN n, h2, h3⟩, below_drewN h.be n⟩
theorem Jv.Hn.over {w0 w : World} {l : List ByteArray} {N : Nat} (h : Jv.Hn w0 w l N N) (n : Nat) : Jv.Ho w0 (w.drewN n) l N 0 := by
  obtain ⟨f, h1, h2, h3⟩ := h.ex
  exact ⟨⟨f, h1.drewN n, fun j hj _ => h2 j hj, fun j h4 _ h5 => h3 j h4 h5⟩, below_drewN h.be n⟩
/-- The first of them, as a path. -/
theorem Jv.Hn.pa {w0 w : World} {l : List ByteArray} {N : Nat} (h : Jv.Hn w0 w l N N) (hl : l.length ≤ N) (hm : l.length ≤ 9223372036854775807) (c : Nat) : Jv.Pa w (.slice (some ⟨w0.heap.size, 0, none⟩) l.length c) l := by
  obtain ⟨f, h1, h2, -⟩ := h.ex
  exact ⟨hm, _, c, rfl, .inr ⟨w0.heap.size, 0, rfl, h1.lt, fun i hi => by rw [Nat.zero_add, h1.cell i (by omega), h2 i hi]⟩⟩
theorem Jv.Pa.at {w : World} {ad : Option Addr} {cap : Nat} {l : List ByteArray} (h : Jv.Pa w (.slice ad l.length cap) l) {i : Nat} (hi : i < l.length) : ∃ g o, ad = some ⟨g, o, none⟩ ∧ g < w.heap.size ∧ w.cell? ⟨g, o + i, none⟩ = some (.string l[i]) := by
  obtain ⟨-, ad', cap', e, h1⟩ := h.ex
  injection e with e1 _ _
  subst e1
  rcases h1 with rfl | ⟨g, o, e, hg, h2⟩
  · exact absurd hi (Nat.not_lt_zero _)
  · exact ⟨g, o, e, hg, h2 i hi⟩
theorem Jv.Rr.pa {w : World} {v : Value} {l : List ByteArray} {ok : Nat → Prop} (h : Jv.Rr w v l ok) (hm : l.length ≤ 9223372036854775807) : Jv.Pa w v l := by
  obtain ⟨a, c, h1, h2⟩ := h.ex
  refine ⟨hm, a, c, h1, h2.imp id ?_⟩
  rintro ⟨g, e, -, hg, hc⟩
  exact ⟨g, 0, e, hg, fun i hi => by rw [Nat.zero_add]; exact hc i _ (List.getElem?_eq_getElem hi)⟩
/-- .. and no smaller than the world that it began in. -/
structure Jv.Hz (wa w0 w : World) (l : List ByteArray) (N i : Nat) : Prop where
  ho : Jv.Ho w0 w l N i
  sz : wa.heap.size ≤ w.heap.size
theorem Jv.Hz.step {wa w0 w : World} {l : List ByteArray} {N i : Nat} (h : Jv.Hz wa w0 w l N i) (hi : i < N) (n : Nat) : Jv.Hz wa w0 ((w.drewN n).setCell ⟨w0.heap.size, i, none⟩ (.string Jv.over)) l N (i + 1) :=
  ⟨(h.ho.drewN n).step hi, by simpa using h.sz⟩
/-- The value of a text, if it has one. -/
def Jv.optV (t : ByteArray) : Option V := match parse t with | .ok v => some v | .bad _ _ => none
theorem Tryz.read_o (bv : Value) (t : ByteArray) (w : World) (hB : Jv.By w bv t) (hs : t.size ≤ 140737488351232) (hT : Tryz.Tb w) :
    Calls Tryz.prog 9 #[bv] w fun en w' => ∃ p q, en = .returned (.tuple #[.pointer p, .pointer q, .bool true]) ∧ Tryz.Po w' (fun g => g < w'.heap.size) (Jv.optV t) p ∧ Tryz.Do w' (fun g => g < w'.heap.size) (Jv.optV t) q ∧ Below w.heap.size w w' := by
  refine (Tryz.read_any bv t w hB hs hT).mono ?_
  rintro en w' ⟨hb, h | h⟩
  · obtain ⟨p, e, h1, h2⟩ := h
    have e0 : Jv.optV t = none := by unfold Jv.optV; rw [h1]
    exact ⟨_, _, h2, .inl ⟨e0, rfl⟩, .inl ⟨e0, rfl⟩, hb⟩
  · obtain ⟨v, x, y, h1, h2, h3, h4⟩ := h
    have e0 : Jv.optV t = some v := by unfold Jv.optV; rw [h1]
    exact ⟨_, _, h2, .inr ⟨v, x, 10, e0, rfl, Tryz.Tr_mono (fun _ _ h => h) _ _ h3, (parse_gd h1).1⟩, .inr ⟨v, y, 10, e0, rfl, Tryz.Td_mono (fun _ _ h => h) _ _ h4, (parse_gd h1).1⟩, hb⟩
theorem Tryz.eql_nil_v (w : World) (p : Option Addr) : (binOp .eql 24 (.pointer p) (.pointer none)).run Tryz.prog w = .ok (.bool p.isNone) w := by
  have h : ∀ d : Nat, (Op.equalIn (d + 1) 24 (.pointer p) (.pointer none)).run Tryz.prog w = .ok p.isNone w := fun d => by
    cases p <;> simp [Op.equalIn, run_underlying Tryz.underlying24]
  simp only [binOp]
  simp [Op.equal, Op.maxDepth, h 9999]
theorem Tryz.eql_nil_d (w : World) (p : Option Addr) : (binOp .eql 25 (.pointer p) (.pointer none)).run Tryz.prog w = .ok (.bool p.isNone) w := by
  have h : ∀ d : Nat, (Op.equalIn (d + 1) 25 (.pointer p) (.pointer none)).run Tryz.prog w = .ok p.isNone w := fun d => by
    cases p <;> simp [Op.equalIn, run_underlying Tryz.underlying25]
  simp only [binOp]
  simp [Op.equal, Op.maxDepth, h 9999]
end Go.Proofs
