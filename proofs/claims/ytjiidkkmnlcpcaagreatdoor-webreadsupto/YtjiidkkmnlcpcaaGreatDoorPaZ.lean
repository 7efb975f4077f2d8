/-
  Laid together by packg.py of Za Zb Ze Zd.
-/
import Derived.Test.YtjiidkkmnlcpcaaGreatDoorPaX
import Derived.Test.YtjiidkkmnlcpcaaGreatDoorPaF
import Derived.Test.YtjiidkkmnlcpcaaGreatDoorPaY
import Derived.Test.YtjiidkkmnlcpcaaGreatDoorPYj
import Derived.Test.YtjiidkkmnlcpcaaGreatDoorPaP
import Derived.Test.YtjiidkkmnlcpcaaGreatDoorPaH
import Derived.ChangeKeysEq
import Derived.MapKept
import Derived.Lib.ItoaLen
import Derived.Lib.AppendIntMem
import Derived.Lib.SmallJoins
namespace Go.Wb
/-- A state function leaves the fault as it was, or makes one. -/
def Fw (m : Msg) (o : Out) : Prop := (o.2.fErr = m.fErr ∧ o.2.begin = m.begin) ∨ (o.1.1 = .no ∧ o.2.left = 0 ∧ o.2.begin = 0 ∧ (o.2.fAt ≤ m.at_ + 1 ∨ o.2.fAt = m.frm))
theorem keep_f (m : Msg) (c : UInt8) : (keep m c).fErr = m.fErr ∧ (keep m c).begin = m.begin ∧ (keep m c).frm = m.frm := by unfold keep; split <;> exact ⟨rfl, rfl, rfl⟩
theorem fw_keep (m : Msg) (c : UInt8) (s : St) : Fw m (s, keep m c) := .inl ⟨(keep_f m c).1, (keep_f m c).2.1⟩
theorem fw_refuse (m : Msg) : Fw m (refuse m) := .inr ⟨rfl, rfl, rfl, .inl (Nat.le_succ _)⟩
theorem fw_at (m : Msg) (e : Nat) : Fw m (fail m m.at_ e) := .inr ⟨rfl, rfl, rfl, .inl (Nat.le_succ _)⟩
theorem fw_next (m : Msg) (e : Nat) : Fw m (fail m (m.at_ + 1) e) := .inr ⟨rfl, rfl, rfl, .inl (Nat.le_refl _)⟩
theorem fw_frm (m : Msg) (e : Nat) : Fw m (fail m m.frm e) := .inr ⟨rfl, rfl, rfl, .inr rfl⟩
theorem fw_headEnds (m : Msg) : Fw m (headEnds m) := by
  unfold headEnds
  (repeat' split)
  all_goals first | exact fw_next m _ | exact .inl ⟨rfl, rfl⟩
theorem fw_thenDo (m : Msg) (t : Th) : Fw m (thenDo t m) := by
  cases t with
  | headerEnds => show Fw m (headerEnds m); unfold headerEnds; split <;> exact .inl ⟨rfl, rfl⟩
  | emptyLineEnds => show Fw m (emptyLineEnds m); unfold emptyLineEnds; split; exact .inl ⟨rfl, rfl⟩; exact fw_headEnds { m with bound := -1, word := [], name := [] }
  | sizeLineEnds => show Fw m (sizeLineEnds m); unfold sizeLineEnds; (repeat' split); all_goals first | exact fw_frm m _ | exact .inl ⟨rfl, rfl⟩
  | _ => exact .inl ⟨rfl, rfl⟩
theorem fw_inMethod (m : Msg) (c : UInt8) : Fw m (inMethod m c) := by
  unfold inMethod
  repeat' split
  · exact fw_keep m c _
  · exact .inl ⟨rfl, rfl⟩
  · exact fw_refuse m
theorem fw_inName (m : Msg) (c : UInt8) : Fw m (inName m c) := by
  unfold inName
  repeat' split
  · exact fw_keep m _ _
  · exact .inl ⟨rfl, rfl⟩
  · exact fw_refuse m
theorem fw_takeDo (m : Msg) (t : Tk) (c : UInt8) : Fw m (takeDo t m c) := by
  cases t with
  | no => exact .inl ⟨rfl, rfl⟩
  | ahead => show Fw m (ahead m c); unfold ahead; split; exact .inl ⟨rfl, rfl⟩; exact fw_inMethod { m with bound := m.at_ + 2048 } c
  | inMethod => exact fw_inMethod m c
  | inTarget => show Fw m (inTarget m c); unfold inTarget; (repeat' split); all_goals first | exact fw_refuse m | exact fw_at m _ | exact fw_keep m c _ | exact .inl ⟨rfl, rfl⟩
  | inVersion =>
    show Fw m (inVersion m c)
    unfold inVersion
    repeat' split
    · exact fw_refuse m
    · exact fw_keep m c _
    · exact fw_frm m _
    · have k := keep_f m c
      have k2 := keep_at m c
      rcases fw_thenDo { keep m c with newer := decide ((keep m c).word = wNewer) } m.th with ⟨e, e2⟩ | ⟨e1, e2, e3, e4⟩
      · exact .inl ⟨e.trans k.1, e2.trans k.2.1⟩
      · refine .inr ⟨e1, e2, e3, ?_⟩
        rcases e4 with e4 | e4
        · exact .inl (Nat.le_trans e4 (Nat.le_of_eq (congrArg (· + 1) k2)))
        · exact .inr (e4.trans k.2.2)
  | lineEnd => show Fw m (lineEnd m c); unfold lineEnd; split; exact .inl ⟨rfl, rfl⟩; exact fw_refuse m
  | lineFeed => show Fw m (lineFeed m c); unfold lineFeed; split; exact fw_thenDo m _; exact fw_refuse m
  | atLine => show Fw m (atLine m c); unfold atLine; (repeat' split); exact .inl ⟨rfl, rfl⟩; exact fw_at m _; exact fw_inName { m with lines := m.lines + 1 } c
  | inName => exact fw_inName m c
  | inValue => show Fw m (inValue m c); unfold inValue; (repeat' split); all_goals first | exact fw_refuse m | exact fw_keep m c _ | exact .inl ⟨rfl, rfl⟩
  | inSize => show Fw m (inSize m c); unfold inSize; (repeat' split); all_goals first | exact fw_refuse m | exact fw_at m _ | exact .inl ⟨rfl, rfl⟩
  | inExt => show Fw m (inExt m c); unfold inExt; (repeat' split); all_goals first | exact fw_refuse m | exact fw_at m _ | exact .inl ⟨rfl, rfl⟩
  | blankA => show Fw m (blankA m c); unfold blankA; split; exact .inl ⟨rfl, rfl⟩; exact fw_refuse m
  | inStatus => show Fw m (inStatus m c); unfold inStatus; (repeat' split); all_goals first | exact fw_refuse m | exact fw_frm m _ | exact .inl ⟨rfl, rfl⟩
  | blankB => show Fw m (blankB m c); unfold blankB; split; exact .inl ⟨rfl, rfl⟩; exact fw_refuse m
  | inReason => show Fw m (inReason m c); unfold inReason; (repeat' split); all_goals first | exact fw_refuse m | exact .inl ⟨rfl, rfl⟩
/-- What stands of a message whose bytes were N at most. -/
structure Fi (m : Msg) (N : Nat) : Prop where
  good : Good m
  at_ : m.at_ ≤ N
  beg : m.begin ≤ N
  err : m.fErr = 0 ∨ over m = true ∧ m.fAt ≤ N
theorem over_of {m : Msg} (h1 : m.tk = .no) (h2 : m.left = 0) : over m = true := by unfold over; rw [h1, h2]; rfl
theorem Fi.bite {m : Msg} {N : Nat} (h : Fi m N) (ho : over m = false) (c : UInt8) : Fi (bite m c) (N + 1) := by
  have h0 : m.fErr = 0 := by
    rcases h.err with e | ⟨e, _⟩
    · exact e
    · rw [ho] at e; cases e
  have ha := h.at_
  have hb := h.beg
  have hf := h.good.fit.ok.ok.frm
  have hba := bite_at m c
  refine ⟨h.good.bite c, by omega, ?_, ?_⟩
  · unfold Wb.bite
    split
    · exact Nat.le_succ_of_le hb
    · unfold step
      split
      · exact Nat.zero_le _
      · show (takeDo m.tk m c).2.begin ≤ _
        rcases fw_takeDo m m.tk c with ⟨_, e⟩ | ⟨_, _, e, _⟩ <;> omega
  · unfold Wb.bite
    split
    · exact .inl h0
    · unfold step
      split
      · exact .inr ⟨rfl, by show m.at_ ≤ _; omega⟩
      · rcases fw_takeDo m m.tk c with ⟨e, _⟩ | ⟨e1, e2, _, e4⟩
        · exact .inl (e.trans h0)
        · exact .inr ⟨over_of e1 e2, by show (takeDo m.tk m c).2.fAt ≤ _; rcases e4 with e4 | e4 <;> omega⟩
theorem Fi.goOn {m : Msg} {N : Nat} (h : Fi m N) : Fi (goOn m) N := by
  unfold Wb.goOn
  split
  · exact ⟨good_zero, Nat.zero_le _, Nat.zero_le _, .inl rfl⟩
  · exact ⟨good_newReq _, h.at_, h.at_, .inl rfl⟩
theorem Fi.up {m : Msg} {N M : Nat} (h : Fi m N) (hN : N ≤ M) : Fi m M :=
  ⟨h.good, Nat.le_trans h.at_ hN, Nat.le_trans h.beg hN, h.err.imp id fun ⟨a, b⟩ => ⟨a, Nat.le_trans b hN⟩⟩
theorem Fi.fd {m : Msg} {N : Nat} (h : Fi m N) : ∀ (l : List UInt8), Fi (fd m l).2 (N + l.length) := by
  intro l
  induction l generalizing m N with
  | nil => exact h
  | cons c r ih =>
    rw [fd_cons, List.length_cons]
    cases ho : over m with
    | true => rw [if_pos rfl]; exact h.up (Nat.le_add_right _ _)
    | false =>
      rw [if_neg Bool.false_ne_true]
      have e : N + (r.length + 1) = N + 1 + r.length := by omega
      rw [e]
      split
      · exact ih (h.bite ho c).goOn
      · exact ih (h.bite ho c)
theorem fi_new : Fi (newReq 0) 0 := ⟨good_newReq 0, Nat.le_refl _, Nat.le_refl _, .inl rfl⟩
theorem fd_len (m : Msg) (l : List UInt8) : (fd m l).1.length ≤ l.length := by
  induction l generalizing m with
  | nil => exact Nat.le_refl _
  | cons c r ih =>
    rw [fd_cons]
    split
    · exact Nat.zero_le _
    · split
      · rw [List.length_cons, List.length_cons]; exact Nat.succ_le_succ (ih _)
      · rw [List.length_cons]; exact Nat.le_succ_of_le (ih _)
end Go.Wb
namespace Go.Wb
def pickN (c : Int) (n : Nat) : Nat := (if c < 0 then -(c + 1) else c).toNat % n
theorem pickN_lt (c : Int) {n : Nat} (h : 0 < n) : pickN c n < n := Nat.mod_lt _ h
theorem pick_neg {c : Int} {n : Nat} (hc : c < 0) : -(c + 1).tmod (n : Int) = ((pickN c n : Nat) : Int) := by
  obtain ⟨m, hm⟩ : ∃ m : Nat, -(c + 1) = (m : Int) := ⟨(-(c + 1)).toNat, by omega⟩
  have h1 : c + 1 = -(m : Int) := by omega
  rw [pickN, if_pos hc, hm, h1, Int.neg_tmod, Int.neg_neg, ← Int.ofNat_tmod]; rfl
theorem pick_pos {c : Int} {n : Nat} (hc : 0 ≤ c) : c % (n : Int) = ((pickN c n : Nat) : Int) := by
  obtain ⟨m, rfl⟩ : ∃ m : Nat, c = (m : Int) := ⟨c.toNat, by omega⟩
  rw [pickN, if_neg (by omega)]; rfl
end Go.Wb
namespace Go.Proofs
open Go.RowKit Go.Wi Go.Wb
theorem Tryz.pick_any (c : Int) (n : Nat) (hn : 0 < n) (hn2 : n < 281474976710656) (h1 : -9223372036854775808 ≤ c) (h2 : c ≤ 9223372036854775807) (w : World) :
    Calls Tryz.prog 28 #[.int .i64 c, .int .i64 n] w fun e w' => e = .returned (.int .i64 (Wb.pickN c n)) ∧ w' = w := by
  by_cases hc : c < 0
  · have e := Wb.pick_neg (n := n) hc
    have HE : Hid _ := e
    clear e
    go_enter Tryz.func28, Tryz.ntmps28
    go_wp2
    go_ret
    exact ⟨by rw [← HE.out]; rfl, rfl⟩
  · have e := Wb.pick_pos (c := c) (n := n) (by omega)
    have HE : Hid _ := e
    clear e
    go_enter Tryz.func28, Tryz.ntmps28
    go_wp2
    go_ret
    exact ⟨by rw [← HE.out]; rfl, rfl⟩
/-- An error as a Feed tells it. -/
def Tryz.Ev (w : World) (m : Msg) (ev : Value) : Prop := m.fErr = 0 ∧ ev = .nilIface ∨ m.fErr ≠ 0 ∧ ∃ g, ev = .iface 97 (.pointer (some ⟨g, 0, none⟩)) ∧ w.heap[g]? = some (.cells #[.int .i64 m.fAt, .int .i64 m.fErr] 63 (0, 0))
def Wb.plc (m : Msg) : Nat := if m.fErr = 0 then 0 else m.fAt
theorem Tryz.assertFault2 (v : Value) (w : World) : (Instr.typeAssert (.iface 97 v) 29 97 true).run Tryz.prog w = .ok (.tuple #[v, .bool true]) w := by kernel_rfl
set_option maxRecDepth 100000 in
set_option maxHeartbeats 2000000 in
theorem Tryz.fault_any {w : World} {m : Msg} {ev : Value} (h : Tryz.Ev w m ev) :
    Calls Tryz.prog 24 #[ev] w fun e w' => e = .returned (.tuple #[.int .i64 (Wb.plc m), .int .i64 m.fErr, .bool true]) ∧ ∃ n, w' = w.drewN n := by
  rcases h with ⟨h0, rfl⟩ | ⟨h0, g, rfl, hg⟩
  · have e : Wb.plc m = 0 := if_pos h0
    rw [e, h0]
    go_enter Tryz.func24, Tryz.ntmps24
    go_wp2
    go_ret3
    exact ⟨rfl, 0, rfl⟩
  · have e : Wb.plc m = m.fAt := if_neg h0
    rw [e]
    have q0 : w.cell? ⟨g, 0, none⟩ = some (.int .i64 m.fAt) := cell_of_row _ _ 0 _ _ _ hg
    have q1 : w.cell? ⟨g, 1, none⟩ = some (.int .i64 m.fErr) := cell_of_row _ _ 1 _ _ _ hg
    have he' : ¬ (m.fErr : Int) = 0 := by omega
    have hta := Tryz.assertFault2
    clear hg e
    go_enter Tryz.func24, Tryz.ntmps24
    go_wp2
    go_region
    go_wp2
    go_ret3
    exact ⟨by simp [h0], 1, rfl⟩
theorem Tryz.cells_str : Tryz.prog.cellsOf 9 = 1 := by kernel_rfl
theorem Tryz.part0 (w : World) (a b : ByteArray) : (part 9 #[.string a, .string b] 0).run Tryz.prog w = .ok (.string a) w := by kernel_rfl
theorem Tryz.part1 (w : World) (a b : ByteArray) : (part 9 #[.string a, .string b] 1).run Tryz.prog w = .ok (.string b) w := by kernel_rfl
theorem Tryz.eqStr (w : World) (d : Nat) (a : ByteArray) : (Op.equalIn (d + 1) 9 (.string a) (.string a)).run Tryz.prog w = .ok true w := by
  simp only [Op.equalIn, Sem.run_bind, run_underlying Tryz.underlying9, Result.andThen_ok]
  have e : (a == a) = true := (MapKept.bytes_beq a a).2 rfl
  simp [e]
theorem Tryz.eqHd (w : World) (a b : ByteArray) : (Op.equalIn 10000 57 (.agg #[.string a, .string b]) (.agg #[.string a, .string b])).run Tryz.prog w = .ok true w := by
  obtain ⟨i0, hi0, -, -, -⟩ := info_parts Tryz.infoStr
  rw [run_equalIn_array w 9999 _ _ Tryz.underlying57 hi0, Tryz.cells_str, show List.range 2 = [0, 1] from rfl]
  simp [Op.eqItems, Tryz.part0, Tryz.part1, Tryz.eqStr w 9998]
set_option maxRecDepth 20000 in
set_option maxHeartbeats 1000000 in
/-- 'headers' of two that are the same. -/
theorem Tryz.headers_same {w : World} {U V : Value} {L : List (List UInt8 × List UInt8)} (hU : Hs w U L) (hV : Hs w V L) (hL : L.length ≤ 9223372036854775807) :
    Calls Tryz.prog 25 #[U, V] w fun e w' => e = .returned (.bool true) ∧ ∃ n, w' = w.drewN n := by
  obtain ⟨ad, cap, rfl, hx⟩ := hU.ex
  obtain ⟨bd, dap, rfl, hy⟩ := hV.ex
  clear hU hV
  have HX : Hid _ := hx
  have HY : Hid _ := hy
  clear hx hy
  go_enter Tryz.func25, Tryz.ntmps25
  go_wp2
  go_loopw [5] (fun iv wr => ∃ i : Nat, iv = .int .i64 i ∧ i ≤ L.length ∧ ∃ n, wr = w.drewN n) (fun iv _ => L.length - (intOf iv).toNat)
  case atStart => exact ⟨0, rfl, Nat.zero_le _, 0, rfl⟩
  case round =>
    obtain ⟨i, rfl, hi, n, rfl⟩ := hrel
    by_cases hlt : i < L.length
    · have q : (i : Int) < (L.length : Int) := by omega
      obtain ⟨g, o, rfl, c0, c1⟩ : ∃ g o, ad = some ⟨g, o, none⟩ ∧ w.cell? ⟨g, o + i * 2, none⟩ = some (.string ⟨L[i].1.toArray⟩) ∧ w.cell? ⟨g, o + i * 2 + 1, none⟩ = some (.string ⟨L[i].2.toArray⟩) := by
        rcases HX.out with e | ⟨g, o, e, hg, hc⟩
        · rw [e] at hlt; cases hlt
        · exact ⟨g, o, e, (hc i hlt).1, (hc i hlt).2⟩
      obtain ⟨g', o', rfl, d0, d1⟩ : ∃ g o, bd = some ⟨g, o, none⟩ ∧ w.cell? ⟨g, o + i * 2, none⟩ = some (.string ⟨L[i].1.toArray⟩) ∧ w.cell? ⟨g, o + i * 2 + 1, none⟩ = some (.string ⟨L[i].2.toArray⟩) := by
        rcases HY.out with e | ⟨g, o, e, hg, hc⟩
        · rw [e] at hlt; cases hlt
        · exact ⟨g, o, e, (hc i hlt).1, (hc i hlt).2⟩
      generalize L[i].1 = a at *
      generalize L[i].2 = b at *
      go_wp2
      refine wp_region_quiet (C := fun W => ∃ k, W = w.drewN k) (by kernel_rfl) (by kernel_rfl) ⟨n + 1, rfl⟩ ?_
      dsimp only
      refine Go.Wb.q_valW (v := .slice (some ⟨g, o, none⟩) L.length cap) (by kernel_rfl) (fun W _ => by go_simp) ?_
      try simp only [Act.put, List.setIfInBounds_toArray, List.set_cons_zero, List.set_cons_succ]
      refine Go.Wb.q_valW (v := .int .i64 i) (by kernel_rfl) (fun W _ => by go_simp) ?_
      try simp only [Act.put, List.setIfInBounds_toArray, List.set_cons_zero, List.set_cons_succ]
      refine Go.Wb.q_valW (v := .pointer (some ⟨g, o + i * 2, none⟩)) (by kernel_rfl) (fun W _ => by go_simp) ?_
      try simp only [Act.put, List.setIfInBounds_toArray, List.set_cons_zero, List.set_cons_succ]
      refine Go.Wb.q_valW (v := .agg #[.string ⟨a.toArray⟩, .string ⟨b.toArray⟩]) (by kernel_rfl) (fun W hW => by obtain ⟨k, rfl⟩ := hW; have x0 : (w.drewN k).cell? ⟨g, o + i * 2, none⟩ = _ := c0; have x1 : (w.drewN k).cell? ⟨g, o + i * 2 + 1, none⟩ = _ := c1; go_simp) ?_
      try simp only [Act.put, List.setIfInBounds_toArray, List.set_cons_zero, List.set_cons_succ]
      refine Go.Wb.q_valW (v := .slice (some ⟨g', o', none⟩) L.length dap) (by kernel_rfl) (fun W _ => by go_simp) ?_
      try simp only [Act.put, List.setIfInBounds_toArray, List.set_cons_zero, List.set_cons_succ]
      refine Go.Wb.q_valW (v := .int .i64 i) (by kernel_rfl) (fun W _ => by go_simp) ?_
      try simp only [Act.put, List.setIfInBounds_toArray, List.set_cons_zero, List.set_cons_succ]
      refine Go.Wb.q_valW (v := .pointer (some ⟨g', o' + i * 2, none⟩)) (by kernel_rfl) (fun W _ => by go_simp) ?_
      try simp only [Act.put, List.setIfInBounds_toArray, List.set_cons_zero, List.set_cons_succ]
      refine Go.Wb.q_valW (v := .agg #[.string ⟨a.toArray⟩, .string ⟨b.toArray⟩]) (by kernel_rfl) (fun W hW => by obtain ⟨k, rfl⟩ := hW; have x0 : (w.drewN k).cell? ⟨g', o' + i * 2, none⟩ = _ := d0; have x1 : (w.drewN k).cell? ⟨g', o' + i * 2 + 1, none⟩ = _ := d1; go_simp) ?_
      try simp only [Act.put, List.setIfInBounds_toArray, List.set_cons_zero, List.set_cons_succ]
      refine Go.Wb.q_valW (v := .bool false) (by kernel_rfl) (fun W _ => by have x0 := Tryz.eqHd W ⟨a.toArray⟩ ⟨b.toArray⟩; go_simp) ?_
      try simp only [Act.put, List.setIfInBounds_toArray, List.set_cons_zero, List.set_cons_succ]
      refine wpQuiet_nil ?_
      rintro W ⟨k, rfl⟩
      go_wp2
      go_roundw
      case rel => exact ⟨i + 1, by simp, by omega, _, rfl⟩
      case measure => simp [intOf]; omega
    · have q : ¬ (i : Int) < (L.length : Int) := by omega
      go_wp2
      go_ret
      exact ⟨rfl, _, rfl⟩
end Go.Proofs
namespace Go.Wb
open Go.RowKit Go.Proofs
theorem pr_cell {l : List Pr} {i : Nat} (hi : i < l.length) : (prCells l)[i * 5]? = some (.string ⟨l[i].rq.method.toArray⟩) ∧ (prCells l)[i * 5 + 1]? = some (.string ⟨l[i].rq.target.toArray⟩) ∧ (prCells l)[i * 5 + 2]? = some l[i].vh ∧ (prCells l)[i * 5 + 3]? = some l[i].vb ∧ (prCells l)[i * 5 + 4]? = some (.bool l[i].rq.last) := by
  induction l generalizing i with
  | nil => cases hi
  | cons p r ih =>
    have e : prCells (p :: r) = .string ⟨p.rq.method.toArray⟩ :: .string ⟨p.rq.target.toArray⟩ :: p.vh :: p.vb :: .bool p.rq.last :: prCells r := rfl
    cases i with
    | zero => exact ⟨rfl, rfl, rfl, rfl, rfl⟩
    | succ i =>
      have := ih (i := i) (by simpa using hi)
      rw [e, show (i + 1) * 5 = i * 5 + 1 + 1 + 1 + 1 + 1 by omega]
      simpa using this
end Go.Wb
namespace Go.Proofs
open Go.RowKit Go.Wi Go.Wb
/-- A request of a row. -/
structure Tryz.At (w : World) (P : Nat → Prop) (V : Value) (g i : Nat) (p : Pr) : Prop where
  ok : Tryz.PrOk w P V p
  c0 : w.cell? ⟨g, i * 5, none⟩ = some (.string ⟨p.rq.method.toArray⟩)
  c1 : w.cell? ⟨g, i * 5 + 1, none⟩ = some (.string ⟨p.rq.target.toArray⟩)
  c2 : w.cell? ⟨g, i * 5 + 2, none⟩ = some p.vh
  c3 : w.cell? ⟨g, i * 5 + 3, none⟩ = some p.vb
  c4 : w.cell? ⟨g, i * 5 + 4, none⟩ = some (.bool p.rq.last)
theorem Tryz.rl_at {w : World} {P : Nat → Prop} {V : Value} {rs : List Rq} (h : Tryz.Rl w P V rs) {i : Nat} (hi : i < rs.length) : ∃ g cap p, V = .slice (some ⟨g, 0, none⟩) rs.length cap ∧ g < w.heap.size ∧ P g ∧ p.rq = rs[i] ∧ Tryz.At w P V g i p := by
  obtain ⟨ps, rfl, h2, h3, h4⟩ := h.ex
  rw [List.length_map] at hi
  have hl := h2.1
  rcases h2.2 with ⟨rfl, h0⟩ | ⟨g, cap, cur, rfl, hB, hg, k1, k2, k3, k4⟩
  · omega
  · obtain ⟨e0, e1, e2, e3, e4⟩ := pr_cell hi
    have hc : ∀ (j : Nat) (v : Value), (prCells ps)[j]? = some v → w.cell? ⟨g, j, none⟩ = some v := fun j v hv => by
      rw [cell_of_row _ _ _ _ _ _ hg]
      rw [← k4, List.getElem?_take] at hv
      split at hv
      · rw [← Array.getElem?_toList]; exact hv
      · cases hv
    refine ⟨g, cap, ps[i], by rw [List.length_map], block_lt hg, h3 g rfl, by simp, ⟨h4 _ (List.getElem_mem hi), hc _ _ e0, hc _ _ e1, hc _ _ e2, hc _ _ e3, hc _ _ e4⟩⟩
end Go.Proofs
namespace Go.Wb
open Go.RowKit Go.Proofs
def shIn : List UInt8 := [71, 69, 84, 32, 47, 97, 32, 72, 84, 84, 80, 47, 49, 46, 49, 13, 10, 72, 111, 115, 116, 58, 32, 120, 13, 10, 13, 10, 71, 69, 84, 32, 32, 47]
def shOut : List UInt8 := [72, 84, 84, 80, 47, 49, 46, 49, 32, 50, 48, 48, 32, 79, 75, 13, 10, 99, 111, 110, 116, 101, 110, 116, 45, 108, 101, 110, 103, 116, 104, 58, 32, 50, 13, 10, 99, 111, 110, 110, 101, 99, 116, 105, 111, 110, 58, 32, 99, 108, 111, 115, 101, 13, 10, 13, 10, 104, 105]
theorem sh_fd1 : (fd (newReq 0) shIn).1 = [⟨[71, 69, 84], [47, 97], [([104, 111, 115, 116], [120])], [], false⟩] := by kernel_rfl
theorem sh_fd2 : (fd (newReq 0) shIn).2.fErr = 180 := by kernel_rfl
theorem sh_rd : (rd newRes shOut).2 = 59 ∧ whole (rd newRes shOut).1 = true ∧ (rd newRes shOut).1.body = [104, 105] ∧ (rd newRes shOut).1.fErr = 0 := by refine ⟨?_, ?_, ?_, ?_⟩ <;> kernel_rfl
theorem sh_pr : printedT (prLine Lib.itoa 200) (prHeads Lib.itoa 200 [] [104, 105] true) [104, 105] = shOut := by kernel_rfl
theorem sh_ok : printedOk (prLine Lib.itoa 200) (prHeads Lib.itoa 200 [] [104, 105] true) := ⟨Nat.le_of_ble_eq_true (by kernel_rfl), Nat.le_of_ble_eq_true (by kernel_rfl)⟩
theorem sh_may : mayPrint 200 [] [104, 105] = true := by kernel_rfl
end Go.Wb
namespace Go.Proofs
open Go.RowKit Go.Wi Go.Wb
/-- Itoa, wherever its table lies as it did. -/
theorem Tryz.itoa_any {w : World} (htab : Lib.TabIs Tryz.prog w "internal/strconv.uint64pow10" .u64 Lib.pow10Tab) (n : Int) (W : World) (h0 : 0 ≤ n) (h1 : n ≤ 9223372036854775807) (hW : Below w.heap.size w W) :
    Calls Tryz.prog 38 #[.int .i64 n] W fun e w' => e = .returned (.string ⟨(Lib.itoa n).toArray⟩) ∧ Below W.heap.size W w' :=
  (Tryz.strconv_Itoa n (by omega) h1 W (Lib.tabBelow_of_tabIs htab W hW)).mono fun _ _ ⟨e, k, os, e2⟩ => ⟨e, by rw [e2]; exact Lib.below_grow _ W (Nat.le_refl _) k os⟩
theorem Wb.bs_const (w : World) (T : TypeId) (l : List UInt8) (m : Nat × Nat) : Bs (w.alloc (.cells (Lib.byteCells l).toArray T m)) (.slice (some ⟨w.heap.size, 0, none⟩) l.length l.length) l := by
  refine ⟨some ⟨w.heap.size, 0, none⟩, l.length, rfl, Nat.le_refl _, (fun e => by cases e), .inr ⟨w.heap.size, 0, rfl, by simp, fun j u hu => ?_⟩⟩
  rw [Nat.zero_add, World.cell?_alloc_mark]
  simpa using hu
set_option maxRecDepth 20000 in
set_option maxHeartbeats 2000000 in
theorem Tryz.shown_any {w : World} (htab : Lib.TabIs Tryz.prog w "internal/strconv.uint64pow10" .u64 Lib.pow10Tab) :
    Calls Tryz.prog 5 #[] w fun e w' => e = .returned (.bool true) ∧ Below w.heap.size w w' := by
  have k0 := Tryz.newParser_any w
  have HTAB : Hid _ := htab
  clear htab
  have hcc := fun W => Lib.run_convert_bytes_const (P := Tryz.prog) W 23 5 #[.int .u8 71, .int .u8 69, .int .u8 84, .int .u8 32, .int .u8 47, .int .u8 97, .int .u8 32, .int .u8 72, .int .u8 84, .int .u8 84, .int .u8 80, .int .u8 47, .int .u8 49, .int .u8 46, .int .u8 49, .int .u8 13, .int .u8 10, .int .u8 72, .int .u8 111, .int .u8 115, .int .u8 116, .int .u8 58, .int .u8 32, .int .u8 120, .int .u8 13, .int .u8 10, .int .u8 13, .int .u8 10, .int .u8 71, .int .u8 69, .int .u8 84, .int .u8 32, .int .u8 32, .int .u8 47] 34 34 Tryz.underlying23 Tryz.underlying5
  have hcd := fun W => Lib.run_convert_bytes_const (P := Tryz.prog) W 23 5 #[.int .u8 104, .int .u8 105] 2 2 Tryz.underlying23 Tryz.underlying5
  have KF : Hid (∀ (w1 : World) (b : Nat), Tryz.Ms 77 w1 (fun k => k = b) b (newReq 0) → Calls Tryz.prog 16 #[.pointer (some ⟨b, 0, none⟩), .slice (some ⟨w1.heap.size, 0, none⟩) 34 34] (w1.alloc (.cells #[.int .u8 71, .int .u8 69, .int .u8 84, .int .u8 32, .int .u8 47, .int .u8 97, .int .u8 32, .int .u8 72, .int .u8 84, .int .u8 84, .int .u8 80, .int .u8 47, .int .u8 49, .int .u8 46, .int .u8 49, .int .u8 13, .int .u8 10, .int .u8 72, .int .u8 111, .int .u8 115, .int .u8 116, .int .u8 58, .int .u8 32, .int .u8 120, .int .u8 13, .int .u8 10, .int .u8 13, .int .u8 10, .int .u8 71, .int .u8 69, .int .u8 84, .int .u8 32, .int .u8 32, .int .u8 47] 5 (34, 34 + 1))) fun e w' => ∃ ad n cap ev own', e = .returned (.tuple #[.slice ad n cap, ev]) ∧ Tryz.Fed (fun k => k = b) (w1.alloc (.cells #[.int .u8 71, .int .u8 69, .int .u8 84, .int .u8 32, .int .u8 47, .int .u8 97, .int .u8 32, .int .u8 72, .int .u8 84, .int .u8 84, .int .u8 80, .int .u8 47, .int .u8 49, .int .u8 46, .int .u8 49, .int .u8 13, .int .u8 10, .int .u8 72, .int .u8 111, .int .u8 115, .int .u8 116, .int .u8 58, .int .u8 32, .int .u8 120, .int .u8 13, .int .u8 10, .int .u8 13, .int .u8 10, .int .u8 71, .int .u8 69, .int .u8 84, .int .u8 32, .int .u8 32, .int .u8 47] 5 (34, 34 + 1))) w' b (fd (newReq 0) shIn).2 (.slice ad n cap) ev (fd (newReq 0) shIn).1 own') := fun w1 b hM => by
    have hbA : Below w1.heap.size w1 (w1.alloc (.cells #[.int .u8 71, .int .u8 69, .int .u8 84, .int .u8 32, .int .u8 47, .int .u8 97, .int .u8 32, .int .u8 72, .int .u8 84, .int .u8 84, .int .u8 80, .int .u8 47, .int .u8 49, .int .u8 46, .int .u8 49, .int .u8 13, .int .u8 10, .int .u8 72, .int .u8 111, .int .u8 115, .int .u8 116, .int .u8 58, .int .u8 32, .int .u8 120, .int .u8 13, .int .u8 10, .int .u8 13, .int .u8 10, .int .u8 71, .int .u8 69, .int .u8 84, .int .u8 32, .int .u8 32, .int .u8 47] 5 (34, 34 + 1))) := (Below.refl _ w1).alloc (Nat.le_refl _) _
    obtain ⟨aw, cw, ah, ch, ab, cb, hmw⟩ := hM.ex
    have hlt := hmw.lt b rfl
    exact Tryz.feed_any (hM.below hbA) (good_newReq 0) (V := .slice (some ⟨w1.heap.size, 0, none⟩) 34 34) (l := shIn) (Wb.bs_const w1 5 shIn (34, 34 + 1)) (fun k e => by cases e; exact ⟨fun e => by have e2 : w1.heap.size = b := e; omega, by simp⟩) (by decide) (by decide)
  go_enter Tryz.func5, Tryz.ntmps5
  go_upto_region 5 with (first
    | (go_at_call 11; refine k0.mono ?_; clear k0; rintro e w1 ⟨b, rfl, hb0, hM, hb1⟩; have kf := KF.out w1 b hM; clear KF)
    | (go_at_call 16; refine kf.mono ?_; clear kf hcc; rintro e w2 ⟨ad, n, cap, ev, own', rfl, hF⟩)
    | fail)
  have hrl := hF.rl
  rw [sh_fd1] at hrl
  obtain ⟨gl, capl, p, eV, hgl, -, hpq, hat⟩ := Tryz.rl_at hrl (i := 0) (by decide)
  injection eV with eV1 eV2 eV3
  subst eV1 eV2 eV3
  have hpq2 : p.rq = ⟨[71, 69, 84], [47, 97], [([104, 111, 115, 116], [120])], [], false⟩ := hpq
  obtain ⟨gh, oh, ch, ehv, hgh, hh⟩ : ∃ gh oh ch, p.vh = .slice (some ⟨gh, oh, none⟩) 1 ch ∧ gh < w2.heap.size ∧ w2.cell? ⟨gh, oh, none⟩ = some (.string ⟨#[104, 111, 115, 116]⟩) ∧ w2.cell? ⟨gh, oh + 1, none⟩ = some (.string ⟨#[120]⟩) := by
    have hH := Hs.ofRow hat.ok.heads
    rw [hpq2] at hH
    obtain ⟨ad, cc, e1, e2⟩ := hH.ex
    rcases e2 with e2 | ⟨g, o, e3, hg, hc⟩
    · cases e2
    · subst e3
      exact ⟨g, o, cc, e1, hg, hc 0 (by decide)⟩
  obtain ⟨ge, rfl⟩ : ∃ ge, ev = .iface 97 (.pointer (some ⟨ge, 0, none⟩)) := by
    rcases hF.err with ⟨e0, _⟩ | ⟨_, ge, e, _⟩
    · rw [sh_fd2] at e0; cases e0
    · exact ⟨ge, e⟩
  have HK : Hid (∀ W, Below w2.heap.size w2 W → W.cell? ⟨gl, 0, none⟩ = some (.string ⟨#[71, 69, 84]⟩) ∧ W.cell? ⟨gl, 1, none⟩ = some (.string ⟨#[47, 97]⟩) ∧ W.cell? ⟨gl, 2, none⟩ = some (.slice (some ⟨gh, oh, none⟩) 1 ch) ∧ W.cell? ⟨gh, oh, none⟩ = some (.string ⟨#[104, 111, 115, 116]⟩) ∧ W.cell? ⟨gh, oh + 1, none⟩ = some (.string ⟨#[120]⟩)) := fun W hW => by
    have c0 := hat.c0
    have c1 := hat.c1
    have c2 := hat.c2
    rw [hpq2] at c0 c1
    rw [ehv] at c2
    exact ⟨(hW.cell (p := ⟨gl, 0, none⟩) hgl).trans c0, (hW.cell (p := ⟨gl, 1, none⟩) hgl).trans c1, (hW.cell (p := ⟨gl, 2, none⟩) hgl).trans c2, (hW.cell (p := ⟨gh, oh, none⟩) hgh).trans hh.1, (hW.cell (p := ⟨gh, oh + 1, none⟩) hgh).trans hh.2⟩
  have hB2 : Below w.heap.size w w2 := Wo.toBelow (hb1.alloc hb1.size _) hF.wo (fun k e => by rw [e]; exact hb0) (by have := hb1.size; simp; omega)
  have HB2 : Hid _ := hB2
  have kp : Calls Tryz.prog 17 #[.agg #[.int .i64 200, .slice none 0 0, .slice (some ⟨w2.heap.size, 0, none⟩) 2 2, .bool true]] (w2.alloc (.cells #[.int .u8 104, .int .u8 105] 5 (2, 2 + 1))) fun e w' => ∃ R, e = .returned (.tuple #[R, .int .i64 0]) ∧ Og w' 0 R shOut ∧ Below w2.heap.size w2 w' := by
    have hb : Below w2.heap.size w2 (w2.alloc (.cells #[.int .u8 104, .int .u8 105] 5 (2, 2 + 1))) := (Below.refl _ w2).alloc (Nat.le_refl _) _
    have hsz : (w2.alloc (.cells #[.int .u8 104, .int .u8 105] 5 (2, 2 + 1))).heap.size = w2.heap.size + 1 := by simp
    refine (Tryz.printResponse_yes (V := .slice none 0 0) (L := []) (body := [104, 105]) Lib.itoa 200 true ⟨⟨none, 0, rfl, .inl rfl⟩, .inl rfl⟩ (Wb.bs_const w2 5 [104, 105] (2, 2 + 1)) (fun k e => by cases e; simp) (fun x hx => by cases hx) (by decide) (by decide) (fun n W h0 h1 hW => Tryz.itoa_any HTAB.out n W h0 h1 (hB2.trans ((hb.trans (hW.mono hb.size)).mono hB2.size))) (fun n h0 h1 => by have := Lib.itoa_length_le n (by omega) h1; omega) sh_may).mono ?_
    rintro e w' ⟨hb', h⟩
    rcases h with ⟨_, R, e1, e2⟩ | ⟨q, _⟩
    · rw [sh_pr] at e2
      exact ⟨R, e1, e2.mono (Nat.zero_le _), hb.trans (hb'.mono hb.size)⟩
    · exact absurd sh_ok q
  have KQ : Hid (∀ (W : World) (R : Value), Og W 0 R shOut → Calls Tryz.prog 7 #[R] W fun e w' => ∃ st ah nh ch' ab cb lst, e = .returned (.tuple #[.agg #[.int .i64 st, .slice ah nh ch', .slice ab 2 cb, .bool lst], .int .i64 59, .nilIface]) ∧ Bs w' (.slice ab 2 cb) [104, 105] ∧ (∀ k, (Value.slice ab 2 cb).ownBlock = some k → k < w'.heap.size) ∧ Below W.heap.size W w') := fun W R hO => by
    refine (Tryz.parse_any hO.bs (fun k e => (hO.lt k e).2) (by rw [sh_rd.1]; decide) (by decide)).mono ?_
    rintro e w' ⟨⟨ah, ch', ab, cb, ev, he, hx, hev⟩, hb⟩
    obtain ⟨s1, s2, s3, s4⟩ := sh_rd
    rw [s2, if_pos rfl, if_pos rfl, s1, s3] at he
    obtain ⟨x1, x2, x3⟩ := hx s2
    rw [s3] at x2
    rcases hev with ⟨_, rfl⟩ | ⟨q, _⟩
    · exact ⟨_, _, _, _, ab, cb, _, he, Bs.ofRow x2, fun k e => (x2.lt k e).2, hb⟩
    · exact absurd s4 q
  clear hrl hat hpq hpq2 ehv hgh hh hF hB2 hb0 hM hb1
  go_upto_region 7 with (first
    | (go_at_call 17; refine kp.mono ?_; clear kp hcd; rintro e w3 ⟨R, rfl, hO, hb3⟩; have kq := KQ.out w3 R hO; clear KQ; have HO : Hid (Og w3 0 R shOut) := hO; obtain ⟨gR, cR, eR, -⟩ := hO; subst eR)
    | (go_at_call 7; refine kq.mono ?_; clear kq; rintro e w4 ⟨st, ah, nh, ch', ab, cb, lst, rfl, hbs4, hlt4, hb4⟩)
    | fail)
  have hn5 := heap_alloc_new w4 (.cells #[.int .i64 st, .slice ah nh ch', .slice ab 2 cb, .bool lst] 27)
  have hb5 : Below w4.heap.size w4 (w4.alloc (.cells #[.int .i64 st, .slice ah nh ch', .slice ab 2 cb, .bool lst] 27)) := (Below.refl _ w4).alloc (Nat.le_refl _) _
  generalize w4.alloc (.cells #[.int .i64 st, .slice ah nh ch', .slice ab 2 cb, .bool lst] 27) = W5 at *
  have hB35 : Below w3.heap.size w3 W5 := hb4.trans (hb5.mono hb4.size)
  have hB25 : Below w2.heap.size w2 W5 := hb3.trans (hB35.mono hb3.size)
  obtain ⟨c0, c1, c2, h0, h1⟩ := HK.out W5 hB25
  have v1 : (convert 23 9 (.slice (some ⟨gR, 0, none⟩) shOut.length cR)).run Tryz.prog W5 = .ok (.string ⟨shOut.toArray⟩) W5 := Tryz.conv_bs ((HO.out.bs).below hB35 fun k e => (HO.out.lt k e).2)
  have v2 : (convert 23 9 (.slice ab 2 cb)).run Tryz.prog W5 = .ok (.string ⟨#[104, 105]⟩) W5 := Tryz.conv_bs (hbs4.below hb5 hlt4)
  have c5 : W5.cell? ⟨w4.heap.size, 2, none⟩ = some (.slice ab 2 cb) := cell_of_row _ _ 2 _ _ _ hn5
  have e59 : shOut.length = 59 := rfl
  have HB : Hid (Below w.heap.size w W5) := HB2.out.trans (hB25.mono HB2.out.size)
  rw [e59] at v1 ⊢
  unfold shOut at v1
  clear HK HO hn5 hb5 hb4 hb3 hB35 hB25 HB2 hbs4 hlt4 hgl e59 HTAB
  have heq := Tryz.eqHd W5 ⟨#[104, 111, 115, 116]⟩ ⟨#[120]⟩
  go_wp2
  go_ret
  exact ⟨rfl, HB.out⟩
end Go.Proofs
