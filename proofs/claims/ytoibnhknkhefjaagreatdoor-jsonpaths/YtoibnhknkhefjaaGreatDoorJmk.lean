/-
  Rows of one mark.
-/
import Derived.Test.YtoibnhknkhefjaaGreatDoorJtw
namespace Go.Proofs
open Go.RowKit Go.Jv
theorem Jv.rep_app (n m : Nat) (mk : ByteArray) : List.replicate n mk ++ List.replicate m mk = List.replicate (n + m) mk := by simp
set_option maxHeartbeats 1000000 in
theorem Tryz.app_mark {ops : Array Oper} {rest : List Oper} {o : Oper} {a : Act} {Q : Exit → Act → World → Prop} (hgd : o.guard = none) (s x : Operand)
    (ho : o.op = .call { callee := .builtin .append, args := #[s, x], argTypes := #[23, 23] })
    (w : World) (v : Value) (hs : a.eval s = v) (m : Nat) (hx : a.eval x = .slice (some ⟨w.heap.size, 0, none⟩) m m) (lo hi n : Nat) (mk : ByteArray) (hO : Tryz.Own w v lo hi (List.replicate n mk)) (hl : n ≤ 1000000) (hm0 : 0 < m) (hm1 : m ≤ 1000) (hlo : lo ≤ w.heap.size)
    (h : ∀ ax cx w', Jv.Rr w' (.slice ax (n + m) cx) (List.replicate (n + m) mk) (fun _ => True) → Tryz.Own w' v lo hi (List.replicate n mk) → Below lo w w' → (∀ v' k, k ≤ n + m → Jv.Rr w v' (List.replicate k mk) (fun _ => True) → Jv.Rr w' v' (List.replicate k mk) (fun _ => True)) → wpList Tryz.prog ops Q rest (a.put o.dst (.slice ax (n + m) cx)) w') :
    wpList Tryz.prog ops Q (o :: rest) a (w.alloc (.cells (Jv.txts (List.replicate m mk)).toArray 9)) := by
  obtain ⟨i0, hi0, hz0, hz1, hz2⟩ := info_parts Tryz.info_str
  have hln : (List.replicate n mk).length = n := by simp
  have hb0 := (Below.refl w.heap.size w).alloc (Nat.le_refl _) (.cells (Jv.txts (List.replicate m mk)).toArray 9)
  have hnl : (Jv.txts (List.replicate m mk)).length = m * 1 := by rw [Jv.txts_len]; simp
  have hnc : ∀ (j : Nat) u, (Jv.txts (List.replicate m mk))[j]? = some u → (w.alloc (.cells (Jv.txts (List.replicate m mk)).toArray 9)).cell? ((⟨w.heap.size, 0, none⟩ : Addr).add j) = some u := World.news_of_block (cs := (Jv.txts (List.replicate m mk)).toArray) (t := 9) (fr := (0, 0)) (heap_alloc_new w _)
  have hone : ∀ u ∈ Jv.txts (List.replicate m mk), u.oneCell' = true := fun u hu => by obtain ⟨X, _, rfl⟩ := List.mem_map.1 hu; rfl
  have hsz : (w.alloc (.cells (Jv.txts (List.replicate m mk)).toArray 9)).heap.size = w.heap.size + 1 := by simp
  have hta : Jv.txts (List.replicate n mk) ++ Jv.txts (List.replicate m mk) = Jv.txts (List.replicate (n + m) mk) := by rw [← Jv.rep_app]; simp [Jv.txts]
  have hOa : Tryz.Own (w.alloc (.cells (Jv.txts (List.replicate m mk)).toArray 9)) v lo hi (List.replicate n mk) := hO.keep (fun g _ h2 => Below.heap_alloc w _ g (Nat.lt_of_lt_of_le h2 hO.siz)) hb0.size
  have fresh : ∀ v' w', w'.ownsRow (w.alloc (.cells (Jv.txts (List.replicate m mk)).toArray 9)).heap.size 9 1 v' (n + m) (Jv.txts (List.replicate n mk) ++ Jv.txts (List.replicate m mk)) → (w.alloc (.cells (Jv.txts (List.replicate m mk)).toArray 9)).grownBy w' none → wpList Tryz.prog ops Q rest (a.put o.dst v') w' := by
    intro v' w' hown hgr
    have hbb : Below w.heap.size w w' := hb0.grown hgr (by simp) (fun k hk => by cases hk)
    obtain ⟨g', cap', rfl, hb', hlt'⟩ := hown.form (by omega)
    refine h _ _ w' ⟨_, cap', by simp, .inr ⟨g', rfl, trivial, hlt', fun j X hX => ?_⟩⟩ (hO.keep (fun g _ h2 => hbb.block g (Nat.lt_of_lt_of_le h2 hO.siz)) hbb.size) (hbb.mono hlo) (fun v' k _ hr => hr.keep (fun g _ hg => hbb.block g hg) hbb.size)
    have hj := (List.getElem?_eq_some_iff.1 hX).1
    simp at hj
    rw [hown.cellAt j (by omega), hta]
    exact Jv.txts_at hX
  rcases hO.row.2 with ⟨h1, h2⟩ | ⟨g, cap, cur, h1, hb, hg, hcap, _⟩
  · rw [hln] at h2
    subst h2
    exact wpList_append_grows _ hgd s x 23 ho 9 i0 _ 1 16 Tryz.underlying23 hi0 hz0 hz1 hz2 rfl (by omega) none 0 0 [] (hs.trans h1) (by simp) rfl (fun b hb => by cases hb) ⟨w.heap.size, 0, none⟩ m m (Jv.txts (List.replicate m mk)) hx hnl hnc hone (by omega) (by unfold maxLen; omega) (by omega) fresh
  · have hglt := (Array.getElem?_eq_some_iff.1 hg).1
    have hghi := hO.blk g (by rw [h1]; rfl)
    have hown0 := hOa.row
    rw [h1, hln] at hown0
    rw [hln] at h1 hcap
    by_cases hfit : n + m ≤ cap
    · refine wpList_append_fits _ hgd s x 23 ho lo 9 i0 1 Tryz.underlying23 hi0 hz1 g n cap (Jv.txts (List.replicate n mk)) (hs.trans h1) hown0 ⟨w.heap.size, 0, none⟩ m m (Jv.txts (List.replicate m mk)) hx hnl hnc hone hfit ?_
      intro w' hown hgr
      have hsw := hgr.size
      have hblk : ∀ k, k < w.heap.size → k ≠ g → w'.heap[k]? = w.heap[k]? := fun k hk hne => (hgr.block k (by omega) (fun e => hne (Option.some.inj e))).trans (Below.heap_alloc w _ k hk)
      have hcells : ∀ j, j < n + m → w'.cell? ⟨g, j, none⟩ = some (.string mk) := fun j hj => by
        rw [hown.cellAt j (by omega), hta]
        exact Jv.txts_at (X := mk) (by rw [List.getElem?_replicate, if_pos hj])
      refine h _ _ w' ⟨_, cap, by simp, .inr ⟨g, rfl, trivial, by omega, fun j X hX => ?_⟩⟩ ?_ ⟨hgr.os, hgr.tape, hgr.output, by omega, fun k hk => hblk k (by omega) (by omega)⟩ (fun v' k hk hr => ?_)
      · have hj := (List.getElem?_eq_some_iff.1 hX).1
        rw [List.length_replicate] at hj
        rw [List.getElem?_replicate, if_pos hj] at hX
        rw [hcells j hj, Option.some.inj hX]
      · refine ⟨⟨by rw [Jv.txts_len]; simp, .inr ?_⟩, hO.blk, by have := hO.siz; omega⟩
        rcases hown.2 with ⟨e, _⟩ | ⟨g', cap', cur', e, hb', hg', hc', hm', hz', ht'⟩
        · cases e
        · cases e
          refine ⟨g, cap, cur', by rw [hln]; exact h1, hb, hg', by rw [hln]; exact hcap, hm', hz', ?_⟩
          have := congrArg (List.take (n * 1)) ht'
          rw [List.take_take, Nat.min_eq_left (by omega)] at this
          rw [hln, this, List.take_left' (by rw [Jv.txts_len]; simp)]
      · obtain ⟨a2, c2, e2, hr2⟩ := hr
        refine ⟨a2, c2, e2, ?_⟩
        rcases hr2 with hr2 | ⟨g2, e3, -, hg2, hc2⟩
        · exact .inl hr2
        · refine .inr ⟨g2, e3, trivial, by omega, fun j X hX => ?_⟩
          by_cases hgg : g2 = g
          · subst hgg
            have hj := (List.getElem?_eq_some_iff.1 hX).1
            rw [List.length_replicate] at hj
            rw [List.getElem?_replicate, if_pos hj] at hX
            rw [hcells j (by omega), Option.some.inj hX]
          · rw [World.cell?_of_block (a := ⟨g2, j, none⟩) (hblk g2 hg2 hgg)]
            exact hc2 j X hX
    · refine wpList_append_grows _ hgd s x 23 ho 9 i0 _ 1 16 Tryz.underlying23 hi0 hz0 hz1 hz2 rfl (by omega) (some ⟨g, 0, none⟩) n cap (Jv.txts (List.replicate n mk)) (hs.trans h1) (by simp) (by rw [Jv.txts_len]; simp) (fun b hb j u hj => ?_) ⟨w.heap.size, 0, none⟩ m m (Jv.txts (List.replicate m mk)) hx hnl hnc hone (by omega) (by unfold maxLen; omega) (by omega) fresh
      cases hb
      have hadd : (⟨g, 0, none⟩ : Addr).add j = ⟨g, j, none⟩ := by unfold Addr.add; split <;> simp_all
      rw [hadd]
      have hj' := (List.getElem?_eq_some_iff.1 hj).1
      rw [Jv.txts_len, hln] at hj'
      rw [hown0.cellAt j (by omega)]; exact hj
end Go.Proofs
