/-
  FEED: append onto a row of one's own, told whether it lies where it lay or in a new block; put.
-/
import Derived.Test.YtdhgpkacilcfgaaGreatDoorFdJ
import Derived.ArgAppend
namespace Go.Proofs
open Go.RowKit Go.Wi Go.Fd Go.Sort
theorem Fd.own_app {P : Program} {w : World} (base : Nat) (t ty e : TypeId) (i : TypeInfo) (z : Value) (size bytes : Nat) (ht : P.underlying t = some (.slice e)) (hi : P.info? e = some i) (hz : i.zero = some z)
    (hsize : i.size = size) (hby : i.bytes = bytes) (hzs : z.cells.size = size) (hsz : 0 < size)
    (v : Value) (n : Nat) (xs : List Value) (hown : w.ownsRow base e size v n xs)
    (a : Addr) (m c : Nat) (news : List Value) (hl : news.length = m * size) (hnews : ∀ j u, news[j]? = some u → w.cell? (a.add j) = some u) (h1 : ∀ u ∈ news, u.oneCell' = true)
    (h63 : n + m ≤ maxLen) (hbytes : (n + m) * bytes ≤ 140737488355328) (hbase : base ≤ w.heap.size) :
    ∃ v' w', (Builtin.append_ #[t, t] ty #[v, .slice (some a) m c]).run P w = .ok v' w' ∧ w'.ownsRow base e size v' (n + m) (xs ++ news) ∧ w.grownBy w' v.ownBlock ∧ (v'.ownBlock = v.ownBlock ∨ ∀ k, v'.ownBlock = some k → w.heap.size ≤ k) ∧ ∃ ad cap, v' = .slice ad (n + m : Nat) cap := by
  have hlen : ∀ {w'' : World} {v'' : Value} {N : Nat} {X : List Value} {B : Nat}, w''.ownsRow B e size v'' N X → ∃ ad cap, v'' = .slice ad N cap := by
    intro w'' v'' N X B h
    rcases h.2 with ⟨rfl, e0⟩ | ⟨g, cap, cur, rfl, _⟩
    · exact ⟨none, 0, by rw [e0]⟩
    · exact ⟨_, _, rfl⟩
  obtain ⟨v', w', hr, ho, hg, _⟩ := run_append_own (P := P) w base t ty e i z size bytes ht hi hz hsize hby hzs hsz v n xs hown a m c news hl hnews h1 h63 hbytes hbase
  refine ⟨v', w', hr, ho, hg, ?_, hlen ho⟩
  rcases hown.2 with ⟨rfl, rfl⟩ | ⟨g, cap, cur, rfl, hB, hb, k1, k2, k3, k4⟩
  · obtain ⟨v2, w2, hr2, ho2, _⟩ := run_append_own (P := P) w w.heap.size t ty e i z size bytes ht hi hz hsize hby hzs hsz (.slice none 0 0) 0 xs ⟨hown.1, .inl ⟨rfl, rfl⟩⟩ a m c news hl hnews h1 h63 hbytes (Nat.le_refl _)
    rw [hr] at hr2
    injection hr2 with e1 e2
    subst e1 e2
    exact .inr fun k e => (ho2.lt k e).1
  · by_cases hroom : n + m ≤ cap
    · have hsp : ∀ j, j < news.length → (w.cell? ⟨g, 0 + n * i.size + j, none⟩).isSome = true ∧ w.frozen? ⟨g, 0 + n * i.size + j, none⟩ = false := fun j hj => by
        refine ⟨?_, frozen_of_row _ _ _ _ _ hb⟩
        rw [cell_of_row _ _ _ _ _ _ hb, Array.getElem?_eq_getElem (by
          rw [k3, hsize]
          have : (n + m) * size ≤ cap * size := Nat.mul_le_mul_right _ hroom
          rw [Nat.add_mul] at this
          omega)]
        rfl
      have hr2 := run_append_room_cells (P := P) w t ty e i ht hi g 0 n cap a m c news (by rw [hsize]; exact hl) hnews h1 hroom (fun j hj => (hsp j hj).1) (fun j hj => (hsp j hj).2)
      rw [hr] at hr2
      injection hr2 with e1 e2
      subst e1
      exact .inl rfl
    · obtain ⟨v2, w2, hr2, ho2, _⟩ := run_append_arg_grows (P := P) w t ty e i z size bytes ht hi hz hsize hby hzs hsz ⟨g, 0, none⟩ n cap xs hown.1 (hown.cells (g := g) rfl) a m c news hl hnews (by omega) h63 hbytes
      rw [hr] at hr2
      injection hr2 with e1 e2
      subst e1 e2
      exact .inr fun k e => (ho2.lt k e).1
/-- 'append' of one sheet. -/
theorem Tryz.appSh {ops : Array Oper} {rest : List Oper} {o : Oper} {a : Act} {Q : Exit → Act → World → Prop} (hgd : o.guard = none) (s y : Operand)
    (ho : o.op = .call { callee := .builtin .append, args := #[s, y], argTypes := #[56, 56] })
    {w : World} {V : Value} {n : Nat} {vs : List Sl} {x : Sl} {g0 : Nat} (hrow : w.ownsRow 0 48 1 V n (vs.map slV)) (hs : a.eval s = V) (hb : w.heap[g0]? = some (.cells #[slV x] 48 (0, 0))) (hy : a.eval y = .slice (some ⟨g0, 0, none⟩) 1 1) (hn : n ≤ 1000)
    (hK : ∀ ad cap w', w'.ownsRow 0 48 1 (.slice ad (n + 1 : Nat) cap) (n + 1) ((vs ++ [x]).map slV) → w.grownBy w' V.ownBlock → ((Value.slice ad (n + 1 : Nat) cap).ownBlock = V.ownBlock ∨ ∀ k, (Value.slice ad (n + 1 : Nat) cap).ownBlock = some k → w.heap.size ≤ k) → wpList Tryz.prog ops Q rest (a.put o.dst (.slice ad (n + 1 : Nat) cap)) w') : wpList Tryz.prog ops Q (o :: rest) a w :=
  wpList_plain hgd fun _ hk' => by
    obtain ⟨i0, hi0, hz0, hz1, hz2⟩ := info_parts Tryz.infoSh
    obtain ⟨v', w', hr, h1, h2, h3, ad, cap, rfl⟩ := Fd.own_app (P := Tryz.prog) (w := w) 0 56 o.type 48 i0 _ 1 24 Tryz.underlying56 hi0 hz0 hz1 hz2 rfl (by omega) V n (vs.map slV) hrow ⟨g0, 0, none⟩ 1 1 [slV x] rfl (World.news_of_block (cs := #[slV x]) hb) (by simp [slV, Value.oneCell']) (by unfold maxLen; omega) (by omega) (Nat.zero_le _)
    unfold Oper.wp
    simp [execOp, ho, resolve, invoke, builtin, hs, hy, hr, Result.andThen]
    refine hk' _ _ (hK ad cap w' ?_ h2 h3)
    rw [List.map_append]
    exact h1
end Go.Proofs
