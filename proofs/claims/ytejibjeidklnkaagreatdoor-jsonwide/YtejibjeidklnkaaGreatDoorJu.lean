/-
  'append', 'appendItems', 'Print'.
-/
import Derived.Test.YtejibjeidklnkaaGreatDoorJs
namespace Go.Proofs
open Go.RowKit Go.Jv
/-- 'append' of a text's bytes. -/
theorem Tryz.app_str {ops : Array Oper} {rest : List Oper} {o : Oper} {a : Act} {Q : Exit → Act → World → Prop} (hgd : o.guard = none) (s x : Operand)
    (ho : o.op = .call { callee := .builtin .append, args := #[s, x], argTypes := #[32, 9] })
    (B : Nat) (v : Value) (n : Nat) (xs : List Value) (hs : a.eval s = v) (w : World) (hrow : w.ownsRow B 5 1 v n xs) (hB : B ≤ w.heap.size) (t : ByteArray) (hx : a.eval x = .string t) (hlen : n + t.size ≤ 140737488355328)
    (h : ∀ v' w', w'.ownsRow B 5 1 v' (n + t.size) (xs ++ Lib.byteCells t.data.toList) → Below B w w' → wpList Tryz.prog ops Q rest (a.put o.dst v') w') : wpList Tryz.prog ops Q (o :: rest) a w := by
  obtain ⟨i0, hi0, hz0, hz1, hz2⟩ := info_parts Tryz.info_u8
  refine Lib.wpList_append_own_string w hgd s x 32 9 ho B 5 i0 Tryz.underlying32 Tryz.underlying9 hi0 hz0 hz1 hz2 v n xs hs hrow t hx (by unfold maxLen; omega) hlen hB ?_
  intro v' w' hown hg _
  exact h v' w' hown ((Below.refl B w).grown hg hB (Jv.row_block hrow))
theorem Tryz.appBool_any (B n : Nat) (v : Value) (xs : List Value) (w : World) (hrow : w.ownsRow B 5 1 v n xs) (hB : B ≤ w.heap.size) (hlen : n ≤ 1000000000) (t : Bool) :
    Calls Tryz.prog 19 #[v, .bool t] w fun en w' => Tryz.Put B n xs (pr (.bool t)) w en w' := by
  have hin : Calls Tryz.prog 33 #[v, .bool t] w fun en w' => Tryz.Put B n xs (pr (.bool t)) w en w' := by
    cases t
    · go_enter Tryz.func33, Tryz.ntmps33
      go_wp2_with (first | (at_builtin; refine Tryz.app_str rfl _ _ rfl B v n xs (by rfl) w hrow hB ⟨#[102, 97, 108, 115, 101]⟩ (by rfl) (by show n + 5 ≤ _; omega) ?_; intro v' w' hown hbe) | fail)
      go_ret
      exact ⟨v', rfl, hown, hbe⟩
    · go_enter Tryz.func33, Tryz.ntmps33
      go_wp2_with (first | (at_builtin; refine Tryz.app_str rfl _ _ rfl B v n xs (by rfl) w hrow hB ⟨#[116, 114, 117, 101]⟩ (by rfl) (by show n + 4 ≤ _; omega) ?_; intro v' w' hown hbe) | fail)
      go_ret
      exact ⟨v', rfl, hown, hbe⟩
  go_enter Tryz.func19, Tryz.ntmps19
  go_wp2_with (first | (go_at_call 33; refine hin.mono ?_; rintro e1 w1 ⟨v1, rfl, hown1, hbe1⟩) | fail)
  go_ret
  exact ⟨v1, rfl, hown1, hbe1⟩
theorem Tryz.kind_any {w : World} {x : Nat} {k : Int} {tr : Bool} {n : Int} {s : ByteArray} {ks is : Value} (h : Jv.Vb w x k tr n s ks is) :
    Calls Tryz.prog 18 #[.pointer (some ⟨x, 0, none⟩)] w fun e w' => e = .returned (.int .i64 k) ∧ w' = w := by
  have hc := h.c0
  clear h
  go_enter Tryz.func18, Tryz.ntmps18
  go_wp2
  go_ret
  exact ⟨rfl, rfl⟩
/-- What 'append' does with a value. -/
def Tryz.PrOk (v : V) : Prop := ∀ (B n : Nat) (bv : Value) (xs : List Value) (w : World) (x : Nat), Tryz.Tr w (fun g => g < B) v x → Tryz.Tb w → 8 ≤ B → w.ownsRow B 5 1 bv n xs → B ≤ w.heap.size → n + 6 * (pr v).length ≤ 900000000 →
    Calls Tryz.prog 15 #[.pointer (some ⟨x, 0, none⟩), bv] w fun en w' => Tryz.Put B n xs (pr v) w en w'
theorem Jv.qText_len (s : ByteArray) : s.size ≤ (qText s).length := by
  have h : ∀ l : List UInt8, l.length ≤ (qBytes l).length := fun l => by
    induction l with
    | nil => simp
    | cons c l ih =>
      have := (qByte_len c).1
      simp only [qBytes, List.flatMap_cons, List.length_append, List.length_cons] at ih ⊢
      omega
  have h1 := h s.data.toList
  have h2 : s.data.toList.length = s.size := by rw [Array.length_toList]; rfl
  simp only [qText, List.length_cons, List.length_append]
  omega
set_option maxHeartbeats 2000000 in
theorem Tryz.pr_scalar (v : V) (hv : ∀ l, v ≠ .list l) (hv2 : ∀ ks l, v ≠ .obj ks l) : Tryz.PrOk v := by
  intro B n bv xs w x hTr hT hBg hrow hB hlen
  cases v with
  | null =>
    obtain ⟨_, hvb⟩ := hTr
    have hk := Tryz.kind_any hvb
    go_enter Tryz.func15, Tryz.ntmps15
    go_wp2_with (first | (go_at_call 18; refine hk.mono ?_; rintro e1 w1 ⟨rfl, rfl⟩) | (at_builtin; refine Tryz.app_str rfl _ _ rfl B bv n xs (by rfl) _ hrow hB ⟨#[110, 117, 108, 108]⟩ (by rfl) (by show n + 4 ≤ _; omega) ?_; intro v' w' hown hbe) | fail)
    go_ret
    exact ⟨v', rfl, hown, hbe⟩
  | bool t =>
    obtain ⟨_, hvb⟩ := hTr
    have hk := Tryz.kind_any hvb
    have hc1 := hvb.c1
    have hap := Tryz.appBool_any B n bv xs w hrow hB (by omega) t
    clear hvb
    go_enter Tryz.func15, Tryz.ntmps15
    go_wp2_with (first | (go_at_call 18; refine hk.mono ?_; rintro e1 w1 ⟨rfl, rfl⟩) | (go_at_call 19; refine hap.mono ?_; rintro e2 w2 ⟨v', rfl, hown, hbe⟩) | fail)
    go_ret
    exact ⟨v', rfl, hown, hbe⟩
  | int m =>
    obtain ⟨⟨_, hm1, hm2⟩, hvb⟩ := hTr
    unfold maxInt at hm1 hm2
    have hk := Tryz.kind_any hvb
    have hc2 := hvb.c2
    have hap := Tryz.strconv_AppendInt_10 B n m (by omega) (by omega) bv xs w hrow hB (by omega) (hT.p10 hBg)
    clear hvb
    go_enter Tryz.func15, Tryz.ntmps15
    go_wp2_with (first | (go_at_call 18; refine hk.mono ?_; rintro e1 w1 ⟨rfl, rfl⟩) | (go_at_call 20; refine hap.mono ?_; rintro e2 w2 ⟨v', rfl, hown, hbe, _⟩) | fail)
    go_ret
    exact ⟨v', rfl, hown, hbe⟩
  | text s =>
    obtain ⟨_, hvb⟩ := hTr
    have hk := Tryz.kind_any hvb
    have hc3 := hvb.c3
    have hql : s.size ≤ (pr (.text s)).length := Jv.qText_len s
    have hap := Tryz.quote_any B n bv xs w hrow hB s (by omega)
    clear hvb
    go_enter Tryz.func15, Tryz.ntmps15
    go_wp2_with (first | (go_at_call 18; refine hk.mono ?_; rintro e1 w1 ⟨rfl, rfl⟩) | (go_at_call 21; refine hap.mono ?_; rintro e2 w2 ⟨v', rfl, hown, hbe⟩) | fail)
    go_ret
    exact ⟨v', rfl, hown, hbe⟩
  | list l => exact absurd rfl (hv l)
  | obj ks l => exact absurd rfl (hv2 ks l)
end Go.Proofs
