/-
  Laid together by pack.py of Sa Sb.
-/
import Derived.Test.YtlfiebapfgpchaaGreatDoorCa
import Derived.Test.YtlfiebapfgpchaaGreatDoorSqW3
import Derived.Maps.Keyed
import Derived.DeepKeys4
namespace Go.Se
/-- A token, plain. -/
structure Tk where
  u : ByteArray
  n : Int
  t : Int
deriving DecidableEq
def Tk.val (x : Tk) : Value := .agg #[.string x.u, .int .i64 x.n, .int .i64 x.t]
def Tk.ok (x : Tk) : Prop := x.u.size ≤ maxLen ∧ (Lit.int .i64 x.n).wf = true ∧ (Lit.int .i64 x.t).wf = true
def Tk.lit (x : Tk) : Lit := .string (keyBytes [.string x.u.data.toList, .int .i64 x.n, .int .i64 x.t])
theorem Tk.val_inj {x y : Tk} (h : x.val = y.val) : x = y := by
  obtain ⟨a, b, c⟩ := x
  obtain ⟨d, e, f⟩ := y
  simp [Tk.val] at h
  simp [h]
end Go.Se
namespace Go.Proofs
open Go.RowKit Go.Se Go.Ct
theorem Tryz.laidOut : laidOutB Tryz.prog = true := by kernel_rfl
theorem Tryz.rowTok : (58 : TypeId) < Tryz.prog.types.size := of_decide_eq_true (by kernel_rfl)
theorem Tryz.wideTok : (match Tryz.prog.underlying 58 with | some (.array _ _) | some (.struct _) => true | _ => false) = true := by
  have h := Tryz.underlying58
  revert h
  generalize Tryz.prog.underlying 58 = o
  rintro rfl
  rfl
set_option maxRecDepth 20000 in
theorem Tryz.lawTok : WideMaps.KeyLaw Tryz.prog 58 := deep_law_laid Tryz.laidOut (m := 2) (by omega) Tryz.rowTok (by kernel_rfl) Tryz.wideTok
theorem Tryz.keyTok : Tryz.prog.keyType 58 = true := by kernel_rfl
theorem Tryz.cellsTok : Tryz.prog.cellsOf 58 = 3 := by kernel_rfl
theorem Tryz.cellsStr : Tryz.prog.cellsOf 9 = 1 := by kernel_rfl
theorem Tryz.cellsI64 : Tryz.prog.cellsOf 2 = 1 := by kernel_rfl
theorem Tryz.szTypes : ∃ n, Tryz.prog.types.size = n + 2 := ⟨Tryz.prog.types.size - 2, by have : (58 : Nat) < Tryz.prog.types.size := Tryz.rowTok; omega⟩
theorem Tryz.lits_tok (a b c : Value) (d : Nat) : Tryz.prog.keyLits (d + 1 + 1) 58 [a, b, c] = (do let x ← Tryz.prog.keyLits (d + 1) 9 [a]; let y ← Tryz.prog.keyLits (d + 1) 2 [b]; let z ← Tryz.prog.keyLits (d + 1) 2 [c]; pure (x ++ y ++ z)) := by
  rw [show Tryz.prog.keyLits (d + 1 + 1) 58 [a, b, c] = (if [a, b, c].length = Tryz.prog.cellsOf 58 ∧ _ = true then _ else none) from by conv => lhs; unfold Program.keyLits; rw [Tryz.underlying58]]
  generalize Tryz.prog.keyLits (d + 1) = E
  simp only [Tryz.cellsTok]
  rw [if_pos ⟨rfl, by kernel_rfl⟩]
  simp only [List.mapM_cons, List.mapM_nil, Tryz.cellsStr, Tryz.cellsI64, List.drop_zero, List.drop_succ_cons, List.take_succ_cons, List.take_zero]
  cases E 9 [a] <;> cases E 2 [b] <;> cases E 2 [c] <;> simp
set_option maxRecDepth 20000 in
theorem Tryz.lits_str (a : Value) (d : Nat) (l : List Lit) (h : Tryz.prog.keyLits (d + 1) 9 [a] = some l) : ∃ s : ByteArray, a = .string s ∧ s.size ≤ maxLen ∧ l = [.string s.data.toList] := by
  unfold Program.keyLits at h
  rw [Tryz.underlying9] at h
  cases a <;> simp at h
  rename_i s
  exact ⟨s, rfl, h.1, h.2.symm⟩
set_option maxRecDepth 20000 in
theorem Tryz.lits_int (a : Value) (d : Nat) (l : List Lit) (h : Tryz.prog.keyLits (d + 1) 2 [a] = some l) : ∃ n : Int, a = .int .i64 n ∧ (Lit.int .i64 n).wf = true ∧ l = [.int .i64 n] := by
  unfold Program.keyLits at h
  rw [Tryz.underlying2] at h
  cases a <;> simp at h
  rename_i k n
  obtain ⟨⟨rfl, h1⟩, h2⟩ := h
  exact ⟨n, rfl, h1, h2.symm⟩
set_option maxRecDepth 20000 in
theorem Tryz.keyOf_tok (x : Tk) (h : x.ok) : Tryz.prog.keyLits (Tryz.prog.types.size + 1) 58 x.val.cells.toList = some [.string x.u.data.toList, .int .i64 x.n, .int .i64 x.t] := by
  obtain ⟨n, hn⟩ := Tryz.szTypes
  rw [hn]
  show Tryz.prog.keyLits (n + 2 + 1) 58 [.string x.u, .int .i64 x.n, .int .i64 x.t] = _
  rw [Tryz.lits_tok _ _ _ (n + 1)]
  have h1 : Tryz.prog.keyLits (n + 1 + 1) 9 [.string x.u] = some [.string x.u.data.toList] := by
    unfold Program.keyLits; rw [Tryz.underlying9]; simp [h.1]
  have h2 : ∀ z : Int, (Lit.int .i64 z).wf = true → Tryz.prog.keyLits (n + 1 + 1) 2 [.int .i64 z] = some [.int .i64 z] := fun z hz => by
    unfold Program.keyLits; rw [Tryz.underlying2]; simp [hz]
  rw [h1, h2 _ h.2.1, h2 _ h.2.2]
  rfl
set_option maxRecDepth 20000 in
theorem Tryz.key_is (x : Tk) (h : x.ok) : keyOf Tryz.prog 58 x.val = some x.lit := by
  unfold keyOf
  rw [Tryz.underlying58]
  have hf : x.val.formed Tryz.prog 58 = true := by
    simp [Tk.val, Value.formed, Tryz.underlying58, Tryz.cellsTok]
  simp only [Tryz.keyTok, hf, Bool.and_self, if_true, Tryz.keyOf_tok x h]
  rfl
set_option maxRecDepth 20000 in
theorem Tryz.key_inv (v : Value) (l : Lit) (h : keyOf Tryz.prog 58 v = some l) : ∃ x : Tk, x.ok ∧ v = x.val ∧ l = x.lit := by
  have h0 := h
  unfold keyOf at h
  rw [Tryz.underlying58] at h
  simp only [Tryz.keyTok, Bool.true_and] at h
  split at h
  · rename_i hf
    obtain ⟨n, hn⟩ := Tryz.szTypes
    rw [hn] at h
    cases v <;> simp [Value.formed, Tryz.underlying58] at hf
    rename_i cs
    rw [Tryz.cellsTok] at hf
    obtain ⟨cs⟩ := cs
    match cs, hf with
    | [a, b, c], _ =>
      have e : (Value.agg #[a, b, c]).cells.toList = [a, b, c] := rfl
      rw [e, Tryz.lits_tok a b c (n + 1)] at h
      cases h1 : Tryz.prog.keyLits (n + 1 + 1) 9 [a] with
      | none => rw [h1] at h; simp at h
      | some l1 =>
        cases h2 : Tryz.prog.keyLits (n + 1 + 1) 2 [b] with
        | none => rw [h1, h2] at h; simp at h
        | some l2 =>
          cases h3 : Tryz.prog.keyLits (n + 1 + 1) 2 [c] with
          | none => rw [h1, h2, h3] at h; simp at h
          | some l3 =>
            obtain ⟨s, rfl, hs, rfl⟩ := Tryz.lits_str a _ l1 h1
            obtain ⟨m, rfl, hm, rfl⟩ := Tryz.lits_int b _ l2 h2
            obtain ⟨k, rfl, hk, rfl⟩ := Tryz.lits_int c _ l3 h3
            have hx : (Tk.mk s m k).ok := ⟨hs, hm, hk⟩
            refine ⟨⟨s, m, k⟩, hx, rfl, ?_⟩
            have := Tryz.key_is ⟨s, m, k⟩ hx
            rw [show (Tk.mk s m k).val = Value.agg #[.string s, .int .i64 m, .int .i64 k] from rfl] at this
            rw [this] at h0
            injection h0 with h0
            exact h0.symm
  · cases h
/-- Tokens, as keys. -/
noncomputable def Tryz.tokKy : Ky Tryz.prog 58 {x : Tk // x.ok} where
  lit x := x.1.lit
  val x := x.1.val
  ok _ := True
  keyed := Maps.Keyed.of_law Tryz.lawTok
  is x _ := Tryz.key_is x.1 x.2
  inv v l h := by
    obtain ⟨x, hx, h1, h2⟩ := Tryz.key_inv v l h
    exact ⟨⟨x, hx⟩, trivial, h1, h2⟩
  inj x y h := by
    have h1 := Tryz.key_is x.1 x.2
    rw [h] at h1
    exact Subtype.ext (Tk.val_inj (Tryz.lawTok.inj h1 (Tryz.key_is y.1 y.2)))
end Go.Proofs
namespace Go.Proofs
open Go.RowKit Go.Wi Go.Se Go.Ct
noncomputable def Tryz.txtKy : Ky Tryz.prog 9 ByteArray := strKy Tryz.underlying9
theorem Ct.alloc_old {w : World} (o : Obj) {k : Nat} (h : k < w.heap.size) : (w.alloc o).heap[k]? = w.heap[k]? := ((Below.refl w.heap.size w).alloc (Nat.le_refl _) o).block k h
theorem Ct.sub_len {κ : Type} [DecidableEq κ] : ∀ (L Ls : List κ), L.Nodup → (∀ x ∈ L, x ∈ Ls) → L.length ≤ Ls.length
  | [], _, _, _ => Nat.zero_le _
  | a :: L, Ls, hn, h => by
    have ha := h a (by simp)
    have hn' := List.nodup_cons.1 hn
    have h1 := Ct.sub_len L (Ls.erase a) hn'.2 fun x hx => (List.mem_erase_of_ne (fun e => hn'.1 (by rw [← e]; exact hx))).2 (h x (by simp [hx]))
    rw [List.length_erase_of_mem ha] at h1
    have h2 : 0 < Ls.length := List.length_pos_of_mem ha
    simp only [List.length_cons]
    omega
open Go.Maps Go.WideElems Go.MapKept Go.ChangeMaps in
/-- A map whose keys all stand in a list is no greater than it. -/
theorem Ct.tight {P : Program} {k : TypeId} {κ : Type} [DecidableEq κ] {K : Ky P k κ} {w : World} {o : Option Nat} {n : Nat} {f : κ → Option Value} (h : Mp K w o n f) (Ls : List κ) (hL : ∀ x, (f x).isSome → x ∈ Ls) : Mp K w o Ls.length f := by
  rcases h.ex with h1 | ⟨b, D, rfl, h2, h3⟩
  · exact ⟨.inl h1⟩
  · have hent := h2.entries K.keyed
    obtain ⟨es, clock, hb, F, hs, hD⟩ := h2
    obtain ⟨es1, rfl, hpw, _⟩ := hent
    have hD' := hD
    injection hD' with hD'
    have hkeys : ∀ p ∈ es1, ∃ x, K.ok x ∧ p.1 = K.lit x := fun p hp => by
      rw [hD'] at hp
      obtain ⟨v, hv⟩ := Maps.fit_keys F p (mem_sorted.1 hp)
      obtain ⟨x, h1, _, h2⟩ := K.inv v _ hv
      exact ⟨x, h1, h2⟩
    obtain ⟨L, hLm, hok⟩ := keys_list K es1 hkeys
    have hll : L.length = es1.length := by have := congrArg List.length hLm; simpa using this
    have hsz : es1.length = es.size := by
      rw [hD', (WideShapes.sorted_perm _).length_eq]
      simp
    have hnd : L.Nodup := by
      have h5 : (es1.map (·.1)).Nodup := List.pairwise_map.2 hpw
      rw [← hLm] at h5
      exact (List.pairwise_map.1 h5).imp fun h e => h (by rw [e])
    refine ⟨.inr ⟨b, _, rfl, ⟨es, clock, hb, F, ?_, hD⟩, h3⟩⟩
    rw [← hsz, ← hll]
    refine Ct.sub_len L Ls hnd fun x hx => hL x ?_
    cases hf : f x with
    | some v => rfl
    | none =>
      have h7 := h3.no x (hok x hx) hf
      have : K.lit x ∈ es1.map (·.1) := by rw [← hLm]; exact List.mem_map.2 ⟨x, hx, rfl⟩
      obtain ⟨p, hp, e⟩ := List.mem_map.1 this
      rw [has_eq] at h7
      rw [List.any_eq_true.2 ⟨p, hp, by rw [e]; exact WideAt.sameKey_self (K.keyed.key (K.is x (hok x hx)))⟩] at h7
      cases h7
open Go.Maps Go.WideElems Go.MapKept Go.ChangeMaps in
/-- 'v, ok := m[x]', of a map that is there. -/
theorem Ct.lookOk {P : Program} {k : TypeId} {κ : Type} {K : Ky P k κ} {w : World} {b : Nat} {n : Nat} {f : κ → Option Value} (h : Mp K w (some b) n f) {t e : TypeId} (ht : P.underlying t = some (.map k e)) {z : Value} (hz : (zeroValue e).run P w = .ok z w) {x : κ} (hx : K.ok x) :
    (Instr.lookup t (.map (some b)) (K.val x) true).run P w = .ok (.tuple #[(f x).getD z, .bool (f x).isSome]) w := by
  rcases h.ex with ⟨h0, _⟩ | ⟨b', D, h0, h2, h3⟩
  · cases h0
  · cases h0
    obtain ⟨v, ps, hrun, hR⟩ := h2.look_ok K.keyed ht hz (zd := .held z) (zp := []) rfl (K.is x hx)
    rw [hrun]
    simp only [vR, Option.some.injEq, Prod.mk.injEq] at hR
    cases hf : f x with
    | none =>
      have h4 := h3.no x hx hf
      have := hR.1
      rw [atKey_of_not_has h4] at this
      injection this with this
      rw [h4, this]
      rfl
    | some u =>
      have h4 := h3.yes x u hf
      have := hR.1
      rw [h4.2] at this
      injection this with this
      rw [h4.1, this]
      rfl
theorem Tryz.zeroInt (w : World) : (zeroValue 3).run Tryz.prog w = .ok (.int .i64 0) w := by kernel_rfl
end Go.Proofs
