/-
  A book: Rotate.
-/
import Derived.Test.YtkfnjmkajhfhlaaCg
namespace Go.Proofs
open Go.RowKit Go.Wi Go.Ct
/-- Notes of the rooms that have come (rl), and of this room's users that have come (ul). -/
structure Ct.Cnt (s : St) (n : Nat) (g : Gh) (rl : ByteArray → Bool) (V : List ByteArray) (L : List (ByteArray × ByteArray × Int)) : Prop where
  nd : L.Nodup
  mem : ∀ x, x ∈ L ↔ (s.nt x.1 x.2.1 x.2.2).isSome ∧ rl x.1 = false
  vn : V.Nodup
  vs : ∀ v ∈ V, (g.G v).isSome ∧ rl v = false
  le : L.length ≤ V.length * (n * n)
structure Ct.Cnu (s : St) (n : Nat) (g : Gh) (rl : ByteArray → Bool) (V : List ByteArray) (r : ByteArray) (ul : ByteArray → Bool) (U : List ByteArray) (L : List (ByteArray × ByteArray × Int)) : Prop where
  nd : L.Nodup
  mem : ∀ x, x ∈ L ↔ (s.nt x.1 x.2.1 x.2.2).isSome ∧ ((rl x.1 = false ∧ x.1 ≠ r) ∨ (x.1 = r ∧ ul x.2.1 = false))
  un : U.Nodup
  us : ∀ v ∈ U, (g.H r v).isSome ∧ ul v = false
  le : L.length ≤ V.length * (n * n) + U.length * n
theorem Try.Bx.allSome {w : World} {b n : Nat} {s : St} {g : Gh} (h : Try.Bx w b s n g) {r u : ByteArray} {k : Int} (hs : (s.nt r u k).isSome) : (g.G r).isSome ∧ (g.H r u).isSome := by
  cases hH : g.H r u with
  | none => rw [(h.no r u hH).2 k] at hs; cases hs
  | some p =>
    refine ⟨?_, rfl⟩
    cases hG : g.G r with
    | none => rw [h.gh r u hG] at hH; cases hH
    | some x => rfl
set_option maxHeartbeats 2000000 in
set_option maxRecDepth 20000 in
theorem Try.rotate_any {w : World} {b n : Nat} {s : St} {g : Gh} (h : Try.Bx w b s n g) (hn : n ≤ 100000) :
    Calls Try.prog 10 #[.pointer (some ⟨b, 0, none⟩)] w fun z w' => ∃ L : List (ByteArray × ByteArray × Int), z = .returned (.int .i64 (L.length : Nat)) ∧ L.Nodup ∧ (∀ x, x ∈ L ↔ (s.nt x.1 x.2.1 x.2.2).isSome) ∧ Below w.heap.size w w' := by
  have c2 : w.cell? ⟨b, 2, none⟩ = some (.map (some g.br)) := cell_of_row _ _ 2 _ _ _ h.bl
  have hbl := block_lt h.bl
  have hN2 : n * n ≤ 10000000000 := Nat.mul_le_mul hn hn
  obtain ⟨R0, hR1, hR2, hR3, _⟩ := h.rm.list Try.uRooms
  obtain ⟨w1, cnt1, hr1, hg1, hgr1, hs1⟩ := h.rm.range Try.uRooms
  have hbel1 : Below w.heap.size w w1 := (Below.refl w.heap.size w).grown hgr1 (Nat.le_refl _) (fun k hk => by cases hk)
  have hrl := h.rm.lt rfl
  have H : Hid _ := h
  have HVR : Hid (∀ x v, (fun r => (g.G r).map mapP) x = some v → ∃ c, v = Value.map (some c) ∧ g.G x = some c) := fun r v hv => by
    cases hx : g.G r with
    | none => simp [hx] at hv
    | some y => simp [hx, mapP] at hv; exact ⟨y, hv.symm, rfl⟩
  have HVU : Hid (∀ r x v, (fun u => (g.H r u).map ptrP) x = some v → ∃ c, v = Value.pointer (some ⟨c, 0, none⟩) ∧ g.H r x = some c) := fun r u v hv => by
    cases hx : g.H r u with
    | none => simp [hx] at hv
    | some y => simp [hx, ptrP] at hv; exact ⟨y, hv.symm, rfl⟩
  have HG : Hid _ := hg1
  have HB : Hid _ := hbel1
  have HR2 : Hid _ := hR2
  clear h hg1 hgr1 hbel1 hR1 hR2
  go_enter Try.func10, Try.ntmps10
  go_wp2
  go_loopw [3] (fun i wr => ∃ rl cnt V L, i = .int .i64 (L.length : Nat) ∧ Ct.Cnt s n g rl V L ∧ Rg Try.kS wr (some g.br) w.heap.size n (fun r => (g.G r).map mapP) rl cnt ∧ Below w.heap.size w wr ∧ w.heap.size < wr.heap.size) (fun _ wr => leftIn wr (some g.br) w.heap.size)
  case atStart =>
    refine ⟨_, _, [], [], rfl, ⟨by simp, fun x => ?_, by simp, by simp, by simp⟩, HG.out, HB.out, by omega⟩
    simp only [List.not_mem_nil, false_iff]
    rintro ⟨h1, h2⟩
    have := (H.out.allSome h1).1
    cases hG : g.G x.1 with
    | none => rw [hG] at this; cases this
    | some y => rw [hG] at h2; simp at h2
  case round =>
    obtain ⟨rl, cnt, V, L, rfl, hC, hrg, hbel, hsz⟩ := hrel
    clear HG HB c2 hr1
    have hcm := hrg.left_eq
    have hVl : V.length ≤ n := by
      have := List.Nodup.length_le_of_subset hC.vn (l₂ := R0) fun x e => (HR2.out x).2 (by simpa using (hC.vs x e).1)
      omega
    have hVN : V.length * (n * n) ≤ 100000 * 10000000000 := Nat.mul_le_mul (by omega) hN2
    have hLl := hC.le
    have HC : Hid _ := hC
    clear hC
    generalize hlL : L.length = lL at *
    go_wp2_with (first
      | (at_next; refine wpNextV (fun s => .string s) (fun _ => rfl) (fun x => .map (some x)) (fun r x => g.G r = some x) HVR.out rfl _ rfl rfl hrg ?_ ?_)
      | fail)
    · intro hl
      clear hrg hcm
      go_wp2
      go_ret
      exact ⟨L, by rw [hlL]; rfl, HC.out.nd, fun x => by rw [HC.out.mem x, hl]; simp, hbel⟩
    · intro r x w2 cnt2 hok hlx hGx hrg2 hlt hg2 hs2 hen
      have hbel2 : Below w.heap.size w w2 := hbel.grown hg2 (by omega) (fun k hk => by injection hk with hk; omega)
      have hus := (H.out.us r x hGx).keep (w' := w2) fun y e => by injection e with e; subst e; exact hbel2.block _ ((H.out.us r _ hGx).lt rfl)
      obtain ⟨U0, hU1, hU2, hU3, _⟩ := hus.list Try.uPages
      obtain ⟨w3, cnt3, hr3, hg3, hgr3, hs3⟩ := hus.range Try.uPages
      have hrg3 := hrg2.keep (w' := w3) (fun y e => hgr3.block y (by injection e with e; omega) (by simp)) (hgr3.block _ (by omega) (by simp))
      have hbel3 : Below w.heap.size w w3 := hbel2.grown hgr3 (by omega) (fun k hk => by cases hk)
      have HG3 : Hid _ := hg3
      have HR3 : Hid _ := hrg3
      have HB3 : Hid _ := hbel3
      have HU2 : Hid _ := hU2
      have HCM : Hid _ := hcm
      have HLT : Hid (cnt2 < cnt) := hlt
      have hxl := (H.out.us r x hGx).lt rfl
      have HS2 : Hid _ := hs2
      have HS3 : Hid _ := hs3
      clear hrg hrg2 hg2 hbel hbel2 hus hg3 hgr3 hrg3 hbel3 hU1 hU2 hcm hlt hs2 hs3
      go_wp2
      have hs2 : w.heap.size < w2.heap.size := by have := HS2.out; omega
      go_loopw [3] (fun i wr' => ∃ ul cntu U L2, i = .int .i64 (L2.length : Nat) ∧ Ct.Cnu s n g rl V r ul U L2 ∧ Rg Try.kS wr' (some x) w2.heap.size n (fun u => (g.H r u).map ptrP) ul cntu ∧ Rg Try.kS wr' (some g.br) w.heap.size n (fun r => (g.G r).map mapP) (fun y => rl y && decide (y ≠ r)) cnt2 ∧ Below w.heap.size w wr' ∧ w2.heap.size < wr'.heap.size) (fun _ wr' => leftIn wr' (some x) w2.heap.size)
      case atStart =>
        refine ⟨_, _, [], L, by rw [hlL], ⟨HC.out.nd, fun y => ?_, by simp, by simp, by have := HC.out.le; simp; omega⟩, HG3.out, ?_, HB3.out, by have := HS3.out; omega⟩
        · rw [HC.out.mem y]
          constructor
          · rintro ⟨h1, h2⟩
            refine ⟨h1, .inl ⟨h2, fun e => ?_⟩⟩
            rw [e, hlx] at h2; cases h2
          · rintro ⟨h1, h2⟩
            refine ⟨h1, ?_⟩
            rcases h2 with h2 | ⟨h2, h3⟩
            · exact h2.1
            · have := (H.out.allSome h1).2
              rw [h2] at this
              cases hH : g.H r y.2.1 with
              | none => rw [hH] at this; cases this
              | some q => rw [hH] at h3; simp at h3
        · have := HR3.out
          simpa using this
      case round =>
        obtain ⟨ul, cntu, U, L2, rfl, hCu, hrgu, hrgo, hbelu, hszu⟩ := hrel
        clear HG3 HR3 HB3 hr3 hen
        have hcmu := hrgu.left_eq
        have hUl : U.length ≤ n := by
          have := List.Nodup.length_le_of_subset hCu.un (l₂ := U0) fun y e => (HU2.out y).2 (by simpa using (hCu.us y e).1)
          omega
        have hUN : U.length * n ≤ 100000 * 100000 := Nat.mul_le_mul (by omega) hn
        have hL2l := hCu.le
        have HCU : Hid _ := hCu
        clear hCu
        generalize hlL2 : L2.length = lL2 at *
        go_wp2_with (first
          | (at_next; refine wpNextV (fun s => .string s) (fun _ => rfl) (fun p => .pointer (some ⟨p, 0, none⟩)) (fun u p => g.H r u = some p) (HVU.out r) rfl _ rfl rfl hrgu ?_ ?_)
          | fail)
        · intro hl
          have hmo := hrgo.left_eq
          clear hrgu hcmu
          go_wp2
          go_roundw
          case rel =>
            refine ⟨_, _, r :: V, L2, by rw [hlL2], ⟨HCU.out.nd, fun y => ?_, List.nodup_cons.2 ⟨fun e => ?_, HC.out.vn⟩, fun y e => ?_, ?_⟩, hrgo, hbelu, by omega⟩
            · rw [HCU.out.mem y]
              by_cases e : y.1 = r <;> simp [e, hl]
            · have := (HC.out.vs r e).2
              rw [hlx] at this; cases this
            · rcases List.mem_cons.1 e with e | e
              · subst e; simp [hGx]
              · exact ⟨(HC.out.vs y e).1, by simp [(HC.out.vs y e).2]⟩
            · have h5 := HCU.out.le
              have h6 : U.length * n ≤ n * n := Nat.mul_le_mul_right n hUl
              simp only [List.length_cons, Nat.succ_mul]
              omega
          case measure => rw [hmo, HCM.out]; exact HLT.out
        · intro u p w4 cnt4 hok4 hlx4 hHp hrg4 hlt4 hg4 hs4 hen4
          have hbel4 : Below w.heap.size w w4 := hbelu.grown hg4 (by omega) (fun k hk => by injection hk with hk; omega)
          have hP := (H.out.pg r u p hHp).keep (w' := w4) (hbel4.block _ (H.out.pg r u p hHp).lt) fun y e => hbel4.block _ (H.out.notesLt e)
          obtain ⟨K, hK1, hK2, hK3, hlen⟩ := hP.mp.list Try.uNotes
          have c5 : w4.cell? ⟨p, 1, none⟩ = some (.map (g.N r u)) := cell_of_row _ _ 1 _ _ _ hP.bl
          have hrgo4 := hrgo.keep (w' := w4) (fun y e => hg4.block y (by injection e with e; omega) (fun e1 => by injection e1 with e1; injection e with e; omega)) (hg4.block _ (by omega) (fun e1 => by injection e1 with e1; omega))
          have hm4 : leftIn w4 (some x) w2.heap.size < leftIn wr (some x) w2.heap.size := by rw [hrg4.left_eq, hcmu]; omega
          have HM4 : Hid _ := hm4
          have HRG4 : Hid _ := hrg4
          have HRGO4 : Hid _ := hrgo4
          have HBEL4 : Hid _ := hbel4
          have HK1 : Hid _ := hK1
          have HK2 : Hid (∀ k, k ∈ K ↔ (s.nt r u k).isSome) := fun k => by rw [hK2 k]; simp
          clear hrgu hrgo hcmu hbelu hg4 hrg4 hrgo4 hbel4 hm4 hP hK1 hK2
          have hKl : (K.length : Int) ≤ 100000 := by omega
          generalize hlK : K.length = lK at *
          go_wp2
          go_roundw
          case rel =>
            have hnew : ∀ x, x ∈ K.map (fun k => (r, u, k)) ↔ (s.nt x.1 x.2.1 x.2.2).isSome ∧ x.1 = r ∧ x.2.1 = u := fun x => by
              rw [List.mem_map]
              constructor
              · rintro ⟨k, hk, rfl⟩
                exact ⟨(HK2.out k).1 hk, rfl, rfl⟩
              · rintro ⟨h1, h2, h3⟩
                refine ⟨x.2.2, (HK2.out _).2 (by rw [← h2, ← h3]; exact h1), ?_⟩
                rw [← h2, ← h3]
            refine ⟨_, _, u :: U, L2 ++ K.map (fun k => (r, u, k)), by simp [hlL2, hlK], ⟨?_, fun y => ?_, List.nodup_cons.2 ⟨fun e => ?_, HCU.out.un⟩, fun y e => ?_, ?_⟩, HRG4.out, HRGO4.out, HBEL4.out, by omega⟩
            · rw [List.nodup_append]
              refine ⟨HCU.out.nd, (List.pairwise_map.2 (HK1.out.imp fun h e => h (by injection e with _ e; injection e))), fun a ha c hc e => ?_⟩
              subst e
              have h1 := (hnew a).1 hc
              have h2 := ((HCU.out.mem a).1 ha).2
              rcases h2 with h2 | h2
              · exact h2.2 h1.2.1
              · rw [h1.2.2, hlx4] at h2; cases h2.2
            · rw [List.mem_append, hnew, HCU.out.mem y]
              by_cases e1 : y.1 = r
              · by_cases e2 : y.2.1 = u
                · simp [e1, e2]
                  exact fun q _ => q
                · simp [e1, e2]
              · simp [e1]
            · have := (HCU.out.us u e).2
              rw [hlx4] at this; cases this
            · rcases List.mem_cons.1 e with e | e
              · subst e; simp [hHp]
              · exact ⟨(HCU.out.us y e).1, by simp [(HCU.out.us y e).2]⟩
            · have h5 := HCU.out.le
              simp only [List.length_append, List.length_map, List.length_cons, Nat.add_one_mul]
              omega
          case measure => exact HM4.out
end Go.Proofs
