/-
  Laid together by packg.py of Za Zi Zb Zc Ze Zf Zg.
-/
import Derived.Test.YtflnijbedicbhaaGreatDoorXcb
import Derived.Test.YtflnijbedicbhaaGreatDoorVc
import Derived.Test.YtflnijbedicbhaaGreatDoorYf
import Derived.Test.YtflnijbedicbhaaGreatDoorYm
import Derived.Test.YtflnijbedicbhaaGreatDoorYj
import Derived.Test.YtflnijbedicbhaaGreatDoorYh
import Derived.Deep.SlicePairs
import Derived.OpenShut
import Derived.SizedLaws
import Derived.Carry
import Derived.ChangeKeysEq
import Derived.MapKept
namespace Go.Wb
/-- A state function leaves the fault as it was, or makes one. -/
def Fw (m : Msg) (o : Out) : Prop := (o.2.fErr = m.fErr ∧ o.2.begin = m.begin) ∨ (o.1.1 = .no ∧ o.2.left = 0 ∧ o.2.begin = 0 ∧ (o.2.fAt ≤ m.at_ + 1 ∨ o.2.fAt = m.frm))
theorem keep_f (m : Msg) (c : UInt8) : (keep m c).fErr = m.fErr ∧ (keep m c).begin = m.begin ∧ (keep m c).frm = m.frm := by unfold keep; split <;> exact ⟨rfl, rfl, rfl⟩
theorem fw_same {m m' : Msg} (s : St) (h : m'.fErr = m.fErr) (h2 : m'.begin = m.begin) : Fw m (s, m') := .inl ⟨h, h2⟩
theorem fw_keep (m : Msg) (c : UInt8) (s : St) : Fw m (s, keep m c) := .inl ⟨(keep_f m c).1, (keep_f m c).2.1⟩
theorem fw_refuse (m : Msg) : Fw m (refuse m) := .inr ⟨rfl, rfl, rfl, .inl (Nat.le_succ _)⟩
theorem fw_at (m : Msg) (e : Nat) : Fw m (fail m m.at_ e) := .inr ⟨rfl, rfl, rfl, .inl (Nat.le_succ _)⟩
theorem fw_next (m : Msg) (e : Nat) : Fw m (fail m (m.at_ + 1) e) := .inr ⟨rfl, rfl, rfl, .inl (Nat.le_refl _)⟩
theorem fw_frm (m : Msg) (e : Nat) : Fw m (fail m m.frm e) := .inr ⟨rfl, rfl, rfl, .inr rfl⟩
theorem fw_headEnds (m : Msg) : Fw m (headEnds m) := by
  unfold headEnds
  (repeat' split)
  all_goals first | exact fw_next m _ | exact .inl ⟨rfl, rfl⟩
theorem fw_thenDo (m : Msg) (t : Th) : Fw m (thenDo t m) := by
  cases t with
  | headerEnds => show Fw m (headerEnds m); unfold headerEnds; split <;> exact .inl ⟨rfl, rfl⟩
  | emptyLineEnds => show Fw m (emptyLineEnds m); unfold emptyLineEnds; split; exact .inl ⟨rfl, rfl⟩; exact fw_headEnds { m with bound := -1, word := [], name := [] }
  | sizeLineEnds => show Fw m (sizeLineEnds m); unfold sizeLineEnds; (repeat' split); all_goals first | exact fw_frm m _ | exact .inl ⟨rfl, rfl⟩
  | _ => exact .inl ⟨rfl, rfl⟩
theorem fw_inMethod (m : Msg) (c : UInt8) : Fw m (inMethod m c) := by
  unfold inMethod
  repeat' split
  · exact fw_keep m c _
  · exact .inl ⟨rfl, rfl⟩
  · exact fw_refuse m
theorem fw_inName (m : Msg) (c : UInt8) : Fw m (inName m c) := by
  unfold inName
  repeat' split
  · exact fw_keep m _ _
  · exact .inl ⟨rfl, rfl⟩
  · exact fw_refuse m
theorem fw_takeDo (m : Msg) (t : Tk) (c : UInt8) : Fw m (takeDo t m c) := by
  cases t with
  | no => exact .inl ⟨rfl, rfl⟩
  | ahead => show Fw m (ahead m c); unfold ahead; split; exact .inl ⟨rfl, rfl⟩; exact fw_inMethod { m with bound := m.at_ + 2048 } c
  | inMethod => exact fw_inMethod m c
  | inTarget => show Fw m (inTarget m c); unfold inTarget; (repeat' split); all_goals first | exact fw_refuse m | exact fw_at m _ | exact fw_keep m c _ | exact .inl ⟨rfl, rfl⟩
  | inVersion =>
    show Fw m (inVersion m c)
    unfold inVersion
    repeat' split
    · exact fw_refuse m
    · exact fw_keep m c _
    · exact fw_frm m _
    · have k := keep_f m c
      have k2 := keep_at m c
      rcases fw_thenDo { keep m c with newer := decide ((keep m c).word = wNewer) } m.th with ⟨e, e2⟩ | ⟨e1, e2, e3, e4⟩
      · exact .inl ⟨e.trans k.1, e2.trans k.2.1⟩
      · refine .inr ⟨e1, e2, e3, ?_⟩
        rcases e4 with e4 | e4
        · exact .inl (Nat.le_trans e4 (Nat.le_of_eq (congrArg (· + 1) k2)))
        · exact .inr (e4.trans k.2.2)
  | lineEnd => show Fw m (lineEnd m c); unfold lineEnd; split; exact .inl ⟨rfl, rfl⟩; exact fw_refuse m
  | lineFeed => show Fw m (lineFeed m c); unfold lineFeed; split; exact fw_thenDo m _; exact fw_refuse m
  | atLine => show Fw m (atLine m c); unfold atLine; (repeat' split); exact .inl ⟨rfl, rfl⟩; exact fw_at m _; exact fw_inName { m with lines := m.lines + 1 } c
  | inName => exact fw_inName m c
  | inValue => show Fw m (inValue m c); unfold inValue; (repeat' split); all_goals first | exact fw_refuse m | exact fw_keep m c _ | exact .inl ⟨rfl, rfl⟩
  | inSize => show Fw m (inSize m c); unfold inSize; (repeat' split); all_goals first | exact fw_refuse m | exact fw_at m _ | exact .inl ⟨rfl, rfl⟩
  | inExt => show Fw m (inExt m c); unfold inExt; (repeat' split); all_goals first | exact fw_refuse m | exact fw_at m _ | exact .inl ⟨rfl, rfl⟩
  | blankA => show Fw m (blankA m c); unfold blankA; split; exact .inl ⟨rfl, rfl⟩; exact fw_refuse m
  | inStatus => show Fw m (inStatus m c); unfold inStatus; (repeat' split); all_goals first | exact fw_refuse m | exact fw_frm m _ | exact .inl ⟨rfl, rfl⟩
  | blankB => show Fw m (blankB m c); unfold blankB; split; exact .inl ⟨rfl, rfl⟩; exact fw_refuse m
  | inReason => show Fw m (inReason m c); unfold inReason; (repeat' split); all_goals first | exact fw_refuse m | exact .inl ⟨rfl, rfl⟩
/-- What stands of a message whose bytes were N at most. -/
structure Fi (m : Msg) (N : Nat) : Prop where
  good : Good m
  at_ : m.at_ ≤ N
  beg : m.begin ≤ N
  err : m.fErr = 0 ∨ over m = true ∧ m.fAt ≤ N
theorem over_of {m : Msg} (h1 : m.tk = .no) (h2 : m.left = 0) : over m = true := by unfold over; rw [h1, h2]; rfl
theorem Fi.bite {m : Msg} {N : Nat} (h : Fi m N) (ho : over m = false) (c : UInt8) : Fi (bite m c) (N + 1) := by
  have h0 : m.fErr = 0 := by
    rcases h.err with e | ⟨e, _⟩
    · exact e
    · rw [ho] at e; cases e
  have ha := h.at_
  have hb := h.beg
  have hf := h.good.fit.ok.ok.frm
  have hba := bite_at m c
  refine ⟨h.good.bite c, by omega, ?_, ?_⟩
  · unfold Wb.bite
    split
    · exact Nat.le_succ_of_le hb
    · unfold step
      split
      · exact Nat.zero_le _
      · show (takeDo m.tk m c).2.begin ≤ _
        rcases fw_takeDo m m.tk c with ⟨_, e⟩ | ⟨_, _, e, _⟩ <;> omega
  · unfold Wb.bite
    split
    · exact .inl h0
    · unfold step
      split
      · exact .inr ⟨rfl, by show m.at_ ≤ _; omega⟩
      · rcases fw_takeDo m m.tk c with ⟨e, _⟩ | ⟨e1, e2, _, e4⟩
        · exact .inl (e.trans h0)
        · exact .inr ⟨over_of e1 e2, by show (takeDo m.tk m c).2.fAt ≤ _; rcases e4 with e4 | e4 <;> omega⟩
theorem Fi.goOn {m : Msg} {N : Nat} (h : Fi m N) : Fi (goOn m) N := by
  unfold Wb.goOn
  split
  · exact ⟨good_zero, Nat.zero_le _, Nat.zero_le _, .inl rfl⟩
  · exact ⟨good_newReq _, h.at_, h.at_, .inl rfl⟩
theorem Fi.up {m : Msg} {N M : Nat} (h : Fi m N) (hN : N ≤ M) : Fi m M :=
  ⟨h.good, Nat.le_trans h.at_ hN, Nat.le_trans h.beg hN, h.err.imp id fun ⟨a, b⟩ => ⟨a, Nat.le_trans b hN⟩⟩
theorem Fi.fd {m : Msg} {N : Nat} (h : Fi m N) : ∀ (l : List UInt8), Fi (fd m l).2 (N + l.length) := by
  intro l
  induction l generalizing m N with
  | nil => exact h
  | cons c r ih =>
    rw [fd_cons, List.length_cons]
    cases ho : over m with
    | true => rw [if_pos rfl]; exact h.up (Nat.le_add_right _ _)
    | false =>
      rw [if_neg Bool.false_ne_true]
      have e : N + (r.length + 1) = N + 1 + r.length := by omega
      rw [e]
      split
      · exact ih (h.bite ho c).goOn
      · exact ih (h.bite ho c)
theorem fi_new : Fi (newReq 0) 0 := ⟨good_newReq 0, Nat.le_refl _, Nat.le_refl _, .inl rfl⟩
theorem fd_len (m : Msg) (l : List UInt8) : (fd m l).1.length ≤ l.length := by
  induction l generalizing m with
  | nil => exact Nat.le_refl _
  | cons c r ih =>
    rw [fd_cons]
    split
    · exact Nat.zero_le _
    · split
      · rw [List.length_cons, List.length_cons]; exact Nat.succ_le_succ (ih _)
      · rw [List.length_cons]; exact Nat.le_succ_of_le (ih _)
end Go.Wb
namespace Go.Proofs
open Go.RowKit Go.ChangeShapes Go.WideShapes Go.Deep
/-- Numbers that lie somewhere. -/
structure Qu.Iv (w : World) (v : Value) (l : List Int) : Prop where
  ex : ∃ a cap, v = .slice a l.length cap ∧ (l = [] ∨ ∃ g o, a = some ⟨g, o, none⟩ ∧ g < w.heap.size ∧ ∀ j (hj : j < l.length), w.cell? ⟨g, o + j, none⟩ = some (.int .i64 l[j]))
  ib : ∀ n ∈ l, -9223372036854775808 ≤ n ∧ n ≤ 9223372036854775807
  cp : ∀ a n c, v = .slice a n c → n ≤ c
theorem Qu.Iv.keep {W W' : World} {v : Value} {l : List Int} (h : Qu.Iv W v l) (hb : Below W.heap.size W W') : Qu.Iv W' v l := by
  obtain ⟨⟨a, c, h1, h2⟩, h3, h5⟩ := h
  refine ⟨⟨a, c, h1, ?_⟩, h3, h5⟩
  rcases h2 with h2 | ⟨g, o, e, hg, h4⟩
  · exact .inl h2
  · exact .inr ⟨g, o, e, Nat.lt_of_lt_of_le hg hb.size, fun j hj => (hb.cell (p := ⟨g, o + j, none⟩) hg).trans (h4 j hj)⟩
theorem Tryz.laidOut : laidOutB Tryz.prog = true := by kernel_rfl
theorem Tryz.cellsInt : Tryz.prog.cellsOf 3 = 1 := by kernel_rfl
theorem Tryz.bytesInt : Tryz.prog.bytesOf 3 = 8 := by kernel_rfl
theorem Tryz.open_ints {H : Type} {enc : TypeId × Value → H} {W : World} {a0 : Option Addr} {len cap fuel : Nat} {x : DataW H × List MemPlace}
    (hf : DataW.trod enc Tryz.prog W 0 (fun _ => true) true fuel 39 [.slice a0 len cap] = some x) : ∃ l : List Int, Qu.Iv W (.slice a0 len cap) l ∧ (l.length = 0 ∨ ∃ el sp, x.1 = .slice el sp ∧ el.length = l.length) := by
  rcases open_slice Tryz.underlying39 hf with ⟨hcs, -⟩ | ⟨a, len', cap', m, n, D, Pl, hcs, _, hl, hm, hmm, hxx, hx⟩
  · simp at hcs
    obtain ⟨rfl, rfl, rfl⟩ := hcs
    exact ⟨[], ⟨⟨none, 0, rfl, .inl rfl⟩, (fun n hn => by simp at hn), fun a n c e => by cases e; exact Nat.le_refl _⟩, .inl rfl⟩
  · simp at hcs
    obtain ⟨rfl, rfl, rfl⟩ := hcs
    have hm' : m = cap := by simpa using hmm
    subst hm'
    obtain ⟨b, off, spot⟩ := a
    have each : ∀ i, i < m → ∃ c : Int, W.cell? ((⟨b, off, spot⟩ : Addr).add i) = some (.int .i64 c) ∧ -9223372036854775808 ≤ c ∧ c ≤ 9223372036854775807 := by
      intro i hi
      obtain ⟨cs', h1, h2⟩ := hx i hi
      rw [Tryz.cellsInt, Nat.mul_one] at h1
      obtain ⟨_, hlen, hcell⟩ := World.cells?_some h1
      obtain ⟨n0, e0, -, b0⟩ := DataW.trod_int Tryz.underlying3 h2
      have d0 := hcell 0 (by omega)
      rw [add_add] at d0
      subst e0
      exact ⟨n0, by simpa using d0, bounds_i64 b0⟩
    obtain ⟨q, hq⟩ := choose_lt each
    have hll : ((List.range len).map q).length = len := by simp
    refine ⟨(List.range len).map q, ⟨⟨some ⟨b, off, spot⟩, m, by rw [hll], ?_⟩, fun n hn => ?_, fun a n c e => by cases e; exact hl⟩, .inr ⟨_, _, by rw [hxx], by rw [hll]; simp⟩⟩
    · by_cases h0 : len = 0
      · subst h0; exact .inl rfl
      · have hc0 := (hq 0 (by omega)).1
        have hspot : spot = none := by simpa [Addr.add] using World.cell?_spot hc0
        subst hspot
        refine .inr ⟨b, off, rfl, World.block_lt_of_cell? _ _ (by simpa [Addr.add] using hc0), fun j hj => ?_⟩
        rw [hll] at hj
        have h1 := (hq j (by omega)).1
        rw [Addr.add_mid] at h1
        rw [h1]
        simp
    · obtain ⟨i, hi, rfl⟩ := List.mem_map.1 hn
      exact (hq i (by have := List.mem_range.1 hi; omega)).2
theorem Tryz.sized_ints {H : Type} {ts : List TypeId} {ds : List (DataW H)} (hsz : (DataW.weightsEach Tryz.prog ts ds).all (· ≤ reachBytes) = true) {j : Nat} {l : List Int} {d : DataW H} (ht : ts[j]? = some 39) (hd : ds[j]? = some d) (h : l.length = 0 ∨ ∃ el sp, d = .slice el sp ∧ el.length = l.length) : l.length ≤ 140737488351232 := by
  rcases h with e | ⟨el, sp, e1, e2⟩
  · omega
  · have := sized_slice hsz (j := j) (t := 39) (elems := el) (spare := sp) ht (by rw [hd, e1]) Tryz.underlying39
    rw [Tryz.bytesInt, e2] at this
    have hr : reachBytes = 140737488351232 := by decide
    omega
/-- The first of them. -/
theorem Qu.Iv.first {w : World} {a : Option Addr} {n c : Nat} {l : List Int} (h : Qu.Iv w (.slice a n c) l) {m : Nat} (hm : m ≤ l.length) : Qu.Iv w (.slice a m c) (l.take m) := by
  obtain ⟨⟨a', c', e, h2⟩, h3, h5⟩ := h
  injection e with e1 e2 e3
  subst e1 e2 e3
  have hc := h5 a l.length c rfl
  have hl : (l.take m).length = m := by rw [List.length_take]; omega
  refine ⟨⟨a, c, by rw [hl], ?_⟩, fun n hn => h3 n (List.mem_of_mem_take hn), fun a' n' c' e => by cases e; omega⟩
  rcases h2 with rfl | ⟨g, o, e, hg, h4⟩
  · exact .inl (by simp)
  · refine .inr ⟨g, o, e, hg, fun j hj => ?_⟩
    rw [h4 j (by omega)]
    simp
end Go.Proofs
namespace Go.Wb
def pickN (c : Int) (n : Nat) : Nat := (if c < 0 then -(c + 1) else c).toNat % n
theorem pickN_lt (c : Int) {n : Nat} (h : 0 < n) : pickN c n < n := Nat.mod_lt _ h
theorem pick_neg {c : Int} {n : Nat} (hc : c < 0) : -(c + 1).tmod (n : Int) = ((pickN c n : Nat) : Int) := by
  obtain ⟨m, hm⟩ : ∃ m : Nat, -(c + 1) = (m : Int) := ⟨(-(c + 1)).toNat, by omega⟩
  have h1 : c + 1 = -(m : Int) := by omega
  rw [pickN, if_pos hc, hm, h1, Int.neg_tmod, Int.neg_neg, ← Int.ofNat_tmod]; rfl
theorem pick_pos {c : Int} {n : Nat} (hc : 0 ≤ c) : c % (n : Int) = ((pickN c n : Nat) : Int) := by
  obtain ⟨m, rfl⟩ : ∃ m : Nat, c = (m : Int) := ⟨c.toNat, by omega⟩
  rw [pickN, if_neg (by omega)]; rfl
end Go.Wb
namespace Go.Proofs
open Go.RowKit Go.Wi Go.Wb
theorem Tryz.pick_any (c : Int) (n : Nat) (hn : 0 < n) (hn2 : n < 281474976710656) (h1 : -9223372036854775808 ≤ c) (h2 : c ≤ 9223372036854775807) (w : World) :
    Calls Tryz.prog 11 #[.int .i64 c, .int .i64 n] w fun e w' => e = .returned (.int .i64 (Wb.pickN c n)) ∧ w' = w := by
  by_cases hc : c < 0
  · have e := Wb.pick_neg (n := n) hc
    have HE : Hid _ := e
    clear e
    go_enter Tryz.func11, Tryz.ntmps11
    go_wp2
    go_ret
    exact ⟨by rw [← HE.out]; rfl, rfl⟩
  · have e := Wb.pick_pos (c := c) (n := n) (by omega)
    have HE : Hid _ := e
    clear e
    go_enter Tryz.func11, Tryz.ntmps11
    go_wp2
    go_ret
    exact ⟨by rw [← HE.out]; rfl, rfl⟩
/-- An error as a Feed tells it. -/
def Tryz.Ev (w : World) (m : Msg) (ev : Value) : Prop := m.fErr = 0 ∧ ev = .nilIface ∨ m.fErr ≠ 0 ∧ ∃ g, ev = .iface 84 (.pointer (some ⟨g, 0, none⟩)) ∧ w.heap[g]? = some (.cells #[.int .i64 m.fAt, .int .i64 m.fErr] 73 (0, 0))
def Wb.plc (m : Msg) : Nat := if m.fErr = 0 then 0 else m.fAt
theorem Tryz.assertFault2 (v : Value) (w : World) : (Instr.typeAssert (.iface 84 v) 33 84 true).run Tryz.prog w = .ok (.tuple #[v, .bool true]) w := by kernel_rfl
set_option maxRecDepth 100000 in
set_option maxHeartbeats 2000000 in
theorem Tryz.fault_any {w : World} {m : Msg} {ev : Value} (h : Tryz.Ev w m ev) :
    Calls Tryz.prog 17 #[ev] w fun e w' => e = .returned (.tuple #[.int .i64 (Wb.plc m), .int .i64 m.fErr, .bool true]) ∧ ∃ n, w' = w.drewN n := by
  rcases h with ⟨h0, rfl⟩ | ⟨h0, g, rfl, hg⟩
  · have e : Wb.plc m = 0 := if_pos h0
    rw [e, h0]
    go_enter Tryz.func17, Tryz.ntmps17
    go_wp2
    go_ret3
    exact ⟨rfl, 0, rfl⟩
  · have e : Wb.plc m = m.fAt := if_neg h0
    rw [e]
    have q0 : w.cell? ⟨g, 0, none⟩ = some (.int .i64 m.fAt) := cell_of_row _ _ 0 _ _ _ hg
    have q1 : w.cell? ⟨g, 1, none⟩ = some (.int .i64 m.fErr) := cell_of_row _ _ 1 _ _ _ hg
    have he' : ¬ (m.fErr : Int) = 0 := by omega
    have hta := Tryz.assertFault2
    clear hg e
    go_enter Tryz.func17, Tryz.ntmps17
    go_wp2
    go_region
    go_wp2
    go_ret3
    exact ⟨by simp [h0], 1, rfl⟩
theorem Tryz.cells_str : Tryz.prog.cellsOf 9 = 1 := by kernel_rfl
theorem Tryz.part0 (w : World) (a b : ByteArray) : (part 9 #[.string a, .string b] 0).run Tryz.prog w = .ok (.string a) w := by kernel_rfl
theorem Tryz.part1 (w : World) (a b : ByteArray) : (part 9 #[.string a, .string b] 1).run Tryz.prog w = .ok (.string b) w := by kernel_rfl
theorem Tryz.eqStr (w : World) (d : Nat) (a : ByteArray) : (Op.equalIn (d + 1) 9 (.string a) (.string a)).run Tryz.prog w = .ok true w := by
  simp only [Op.equalIn, Sem.run_bind, run_underlying Tryz.underlying9, Result.andThen_ok]
  have e : (a == a) = true := (MapKept.bytes_beq a a).2 rfl
  simp [e]
theorem Tryz.eqHd (w : World) (a b : ByteArray) : (Op.equalIn 10000 61 (.agg #[.string a, .string b]) (.agg #[.string a, .string b])).run Tryz.prog w = .ok true w := by
  obtain ⟨i0, hi0, -, -, -⟩ := info_parts Tryz.infoStr
  rw [run_equalIn_array w 9999 _ _ Tryz.underlying61 hi0, Tryz.cells_str, show List.range 2 = [0, 1] from rfl]
  simp [Op.eqItems, Tryz.part0, Tryz.part1, Tryz.eqStr w 9998]
set_option maxRecDepth 20000 in
set_option maxHeartbeats 1000000 in
/-- 'headers' of two that are the same. -/
theorem Tryz.headers_same {w : World} {U V : Value} {L : List (List UInt8 × List UInt8)} (hU : Hs w U L) (hV : Hs w V L) (hL : L.length ≤ 9223372036854775807) :
    Calls Tryz.prog 10 #[U, V] w fun e w' => e = .returned (.bool true) ∧ ∃ n, w' = w.drewN n := by
  obtain ⟨ad, cap, rfl, hx⟩ := hU.ex
  obtain ⟨bd, dap, rfl, hy⟩ := hV.ex
  clear hU hV
  have HX : Hid _ := hx
  have HY : Hid _ := hy
  clear hx hy
  go_enter Tryz.func10, Tryz.ntmps10
  go_wp2
  go_loopw [5] (fun iv wr => ∃ i : Nat, iv = .int .i64 i ∧ i ≤ L.length ∧ ∃ n, wr = w.drewN n) (fun iv _ => L.length - (intOf iv).toNat)
  case atStart => exact ⟨0, rfl, Nat.zero_le _, 0, rfl⟩
  case round =>
    obtain ⟨i, rfl, hi, n, rfl⟩ := hrel
    by_cases hlt : i < L.length
    · have q : (i : Int) < (L.length : Int) := by omega
      obtain ⟨g, o, rfl, c0, c1⟩ : ∃ g o, ad = some ⟨g, o, none⟩ ∧ w.cell? ⟨g, o + i * 2, none⟩ = some (.string ⟨L[i].1.toArray⟩) ∧ w.cell? ⟨g, o + i * 2 + 1, none⟩ = some (.string ⟨L[i].2.toArray⟩) := by
        rcases HX.out with e | ⟨g, o, e, hg, hc⟩
        · rw [e] at hlt; cases hlt
        · exact ⟨g, o, e, (hc i hlt).1, (hc i hlt).2⟩
      obtain ⟨g', o', rfl, d0, d1⟩ : ∃ g o, bd = some ⟨g, o, none⟩ ∧ w.cell? ⟨g, o + i * 2, none⟩ = some (.string ⟨L[i].1.toArray⟩) ∧ w.cell? ⟨g, o + i * 2 + 1, none⟩ = some (.string ⟨L[i].2.toArray⟩) := by
        rcases HY.out with e | ⟨g, o, e, hg, hc⟩
        · rw [e] at hlt; cases hlt
        · exact ⟨g, o, e, (hc i hlt).1, (hc i hlt).2⟩
      generalize L[i].1 = a at *
      generalize L[i].2 = b at *
      go_wp2
      refine wp_region_quiet (C := fun W => ∃ k, W = w.drewN k) (by kernel_rfl) (by kernel_rfl) ⟨n + 1, rfl⟩ ?_
      dsimp only
      refine Go.Wb.q_valW (v := .slice (some ⟨g, o, none⟩) L.length cap) (by kernel_rfl) (fun W _ => by go_simp) ?_
      try simp only [Act.put, List.setIfInBounds_toArray, List.set_cons_zero, List.set_cons_succ]
      refine Go.Wb.q_valW (v := .int .i64 i) (by kernel_rfl) (fun W _ => by go_simp) ?_
      try simp only [Act.put, List.setIfInBounds_toArray, List.set_cons_zero, List.set_cons_succ]
      refine Go.Wb.q_valW (v := .pointer (some ⟨g, o + i * 2, none⟩)) (by kernel_rfl) (fun W _ => by go_simp) ?_
      try simp only [Act.put, List.setIfInBounds_toArray, List.set_cons_zero, List.set_cons_succ]
      refine Go.Wb.q_valW (v := .agg #[.string ⟨a.toArray⟩, .string ⟨b.toArray⟩]) (by kernel_rfl) (fun W hW => by obtain ⟨k, rfl⟩ := hW; have x0 : (w.drewN k).cell? ⟨g, o + i * 2, none⟩ = _ := c0; have x1 : (w.drewN k).cell? ⟨g, o + i * 2 + 1, none⟩ = _ := c1; go_simp) ?_
      try simp only [Act.put, List.setIfInBounds_toArray, List.set_cons_zero, List.set_cons_succ]
      refine Go.Wb.q_valW (v := .slice (some ⟨g', o', none⟩) L.length dap) (by kernel_rfl) (fun W _ => by go_simp) ?_
      try simp only [Act.put, List.setIfInBounds_toArray, List.set_cons_zero, List.set_cons_succ]
      refine Go.Wb.q_valW (v := .int .i64 i) (by kernel_rfl) (fun W _ => by go_simp) ?_
      try simp only [Act.put, List.setIfInBounds_toArray, List.set_cons_zero, List.set_cons_succ]
      refine Go.Wb.q_valW (v := .pointer (some ⟨g', o' + i * 2, none⟩)) (by kernel_rfl) (fun W _ => by go_simp) ?_
      try simp only [Act.put, List.setIfInBounds_toArray, List.set_cons_zero, List.set_cons_succ]
      refine Go.Wb.q_valW (v := .agg #[.string ⟨a.toArray⟩, .string ⟨b.toArray⟩]) (by kernel_rfl) (fun W hW => by obtain ⟨k, rfl⟩ := hW; have x0 : (w.drewN k).cell? ⟨g', o' + i * 2, none⟩ = _ := d0; have x1 : (w.drewN k).cell? ⟨g', o' + i * 2 + 1, none⟩ = _ := d1; go_simp) ?_
      try simp only [Act.put, List.setIfInBounds_toArray, List.set_cons_zero, List.set_cons_succ]
      refine Go.Wb.q_valW (v := .bool false) (by kernel_rfl) (fun W _ => by have x0 := Tryz.eqHd W ⟨a.toArray⟩ ⟨b.toArray⟩; go_simp) ?_
      try simp only [Act.put, List.setIfInBounds_toArray, List.set_cons_zero, List.set_cons_succ]
      refine wpQuiet_nil ?_
      rintro W ⟨k, rfl⟩
      go_wp2
      go_roundw
      case rel => exact ⟨i + 1, by simp, by omega, _, rfl⟩
      case measure => simp [intOf]; omega
    · have q : ¬ (i : Int) < (L.length : Int) := by omega
      go_wp2
      go_ret
      exact ⟨rfl, _, rfl⟩
set_option maxRecDepth 20000 in
set_option maxHeartbeats 2000000 in
/-- 'same' of two that are one. -/
theorem Tryz.same_any {w : World} {P Q : Nat → Prop} {U V : Value} {p q : Pr} (hp : Tryz.PrOk w P U p) (hq : Tryz.PrOk w Q V q) (h : p.rq = q.rq) (hL : p.rq.headers.length ≤ 9223372036854775807) :
    Calls Tryz.prog 18 #[.agg p.cells.toArray, .agg q.cells.toArray] w fun e w' => e = .returned (.bool true) ∧ Below w.heap.size w w' := by
  obtain ⟨r, ah, ch, ab, cb⟩ := p
  obtain ⟨r', ah', ch', ab', cb'⟩ := q
  obtain rfl : r = r' := h
  have e1 : (Pr.mk r ah ch ab cb).cells.toArray = #[.string ⟨r.method.toArray⟩, .string ⟨r.target.toArray⟩, .slice ah r.headers.length ch, .slice ab r.body.length cb, .bool r.last] := rfl
  have e2 : (Pr.mk r ah' ch' ab' cb').cells.toArray = #[.string ⟨r.method.toArray⟩, .string ⟨r.target.toArray⟩, .slice ah' r.headers.length ch', .slice ab' r.body.length cb', .bool r.last] := rfl
  rw [e1, e2]
  have hb2 : Below w.heap.size w ((w.alloc (.cells #[.string ⟨r.method.toArray⟩, .string ⟨r.target.toArray⟩, .slice ah r.headers.length ch, .slice ab r.body.length cb, .bool r.last] 49)).alloc (.cells #[.string ⟨r.method.toArray⟩, .string ⟨r.target.toArray⟩, .slice ah' r.headers.length ch', .slice ab' r.body.length cb', .bool r.last] 49)) := ((Below.refl _ w).alloc (Nat.le_refl _) _).alloc (by simp) _
  have kh := Tryz.headers_same ((Hs.ofRow hp.heads).below hb2) ((Hs.ofRow hq.heads).below hb2) hL
  have HC : Hid (∀ n, (convert 26 9 (.slice ab r.body.length cb)).run Tryz.prog (World.drewN _ n) = .ok (.string ⟨r.body.toArray⟩) (World.drewN _ n) ∧ (convert 26 9 (.slice ab' r.body.length cb')).run Tryz.prog (World.drewN _ n) = .ok (.string ⟨r.body.toArray⟩) (World.drewN _ n)) := fun n => ⟨Tryz.conv_bs ((Bs.ofRow hp.body).below (belowN hb2 n) fun k e => (hp.body.lt k e).2), Tryz.conv_bs ((Bs.ofRow hq.body).below (belowN hb2 n) fun k e => (hq.body.lt k e).2)⟩
  have HB : Hid _ := hb2
  have hsz : (w.alloc (.cells #[.string ⟨r.method.toArray⟩, .string ⟨r.target.toArray⟩, .slice ah r.headers.length ch, .slice ab r.body.length cb, .bool r.last] 49)).heap.size = w.heap.size + 1 := by simp
  clear hp hq hb2 e1 e2
  go_enter Tryz.func18, Tryz.ntmps18
  go_wp2_with (first
    | (go_at_call 10; refine kh.mono ?_; clear kh; rintro e w1 ⟨rfl, n, rfl⟩; obtain ⟨v1, v2⟩ := HC.out n)
    | fail)
  go_ret
  exact ⟨rfl, belowN HB.out n⟩
end Go.Proofs
namespace Go.Wb
/-- A text, cut at raw places. -/
def piecesL : List UInt8 → List Int → List (List UInt8)
  | s, [] => [s]
  | s, c :: r => if s = [] then [s] else s.take (pickN c (s.length + 1)) :: piecesL (s.drop (pickN c (s.length + 1))) r
theorem pieces_flat (s : List UInt8) (cs : List Int) : (piecesL s cs).flatten = s := by
  induction cs generalizing s with
  | nil => simp [piecesL]
  | cons c r ih =>
    unfold piecesL
    split
    · simp
    · rw [List.flatten_cons, ih, List.take_append_drop]
theorem pieces_len (s : List UInt8) (cs : List Int) : (piecesL s cs).length ≤ cs.length + 1 := by
  induction cs generalizing s with
  | nil => simp [piecesL]
  | cons c r ih =>
    unfold piecesL
    split
    · simp
    · rw [List.length_cons, List.length_cons]; exact Nat.succ_le_succ (ih _)
theorem pieces_nil (cs : List Int) : piecesL [] cs = [[]] := by cases cs <;> simp [piecesL]
theorem pieces_next {s : List UInt8} (hs : s ≠ []) {cs : List Int} {i : Nat} (hi : i < cs.length) : piecesL s (cs.drop i) = s.take (pickN cs[i] (s.length + 1)) :: piecesL (s.drop (pickN cs[i] (s.length + 1))) (cs.drop (i + 1)) := by
  rw [List.drop_eq_getElem_cons hi]
  conv => lhs; unfold piecesL
  rw [if_neg hs]
theorem ext_take (r : List UInt8) (m : Nat) : (⟨r.toArray⟩ : ByteArray).extract 0 m = ⟨(r.take m).toArray⟩ := by
  apply ByteArray.ext
  simp [ByteArray.data_extract]
theorem ext_drop (r : List UInt8) (m : Nat) : (⟨r.toArray⟩ : ByteArray).extract m r.length = ⟨(r.drop m).toArray⟩ := by
  apply ByteArray.ext
  simp [ByteArray.data_extract, List.take_of_length_le]
end Go.Wb
namespace Go.Proofs
open Go.RowKit Go.Wi Go.Wb
set_option maxRecDepth 20000 in
set_option maxHeartbeats 2000000 in
theorem Tryz.pieces_any {w : World} {C : Value} {cs : List Int} (hC : Qu.Iv w C cs) (hcl : cs.length ≤ 1048576) (s : List UInt8) (hsl : s.length ≤ 140737488351232) :
    Calls Tryz.prog 13 #[.string ⟨s.toArray⟩, C] w fun e w' => ∃ V, e = .returned V ∧ w'.ownsRow w.heap.size 9 1 V (piecesL s cs).length (strCells (piecesL s cs)) ∧ Below w.heap.size w w' := by
  obtain ⟨ac, cc, rfl, hx⟩ := hC.ex
  have hib := hC.ib
  have HX : Hid _ := hx
  have HIB : Hid _ := hib
  have HSL : Hid _ := hsl
  clear hC hx hib
  have HI : Hid (∃ (i : Nat) (r : List UInt8) (out : List (List UInt8)) (ad : Option Addr) (cap : Nat), (Value.int .i64 0 = .int .i64 i) ∧ i ≤ cs.length ∧ (Value.string ⟨s.toArray⟩ = .string ⟨r.toArray⟩) ∧ r.length ≤ 140737488351232 ∧ out.length ≤ i ∧ piecesL s cs = out ++ piecesL r (cs.drop i) ∧ (Value.slice none 0 0 = .slice ad out.length cap) ∧ w.ownsRow w.heap.size 9 1 (.slice none 0 0) out.length (strCells out) ∧ Below w.heap.size w w) := ⟨0, s, [], none, 0, rfl, Nat.zero_le _, rfl, hsl, Nat.le_refl _, rfl, rfl, World.ownsRow_nil _ _ _ _, Below.refl _ _⟩
  clear hsl
  go_enter Tryz.func13, Tryz.ntmps13
  go_wp2
  go_loopw [0, 5, 6] (fun sv ov iv wr => ∃ (i : Nat) (r : List UInt8) (out : List (List UInt8)) (ad : Option Addr) (cap : Nat), iv = .int .i64 i ∧ i ≤ cs.length ∧ sv = .string ⟨r.toArray⟩ ∧ r.length ≤ 140737488351232 ∧ out.length ≤ i ∧ piecesL s cs = out ++ piecesL r (cs.drop i) ∧ ov = .slice ad out.length cap ∧ wr.ownsRow w.heap.size 9 1 ov out.length (strCells out) ∧ Below w.heap.size w wr) (fun _ _ iv _ => cs.length - (intOf iv).toNat)
  case atStart => exact HI.out
  case round =>
    clear HI
    obtain ⟨i, r, out, ad, cap, rfl, hi, rfl, hrl, hol, hpl, rfl, hrow, hbel⟩ := hrel
    have HPL : Hid _ := hpl
    have HROW : Hid _ := hrow
    have HB : Hid _ := hbel
    clear hpl hrow hbel
    have hrz : (⟨r.toArray⟩ : ByteArray).size = r.length := by simp [ByteArray.size]
    have HO : Hid (out.length ≤ i) := hol
    by_cases hlt : i < cs.length
    · have q : (i : Int) < (cs.length : Int) := by omega
      by_cases hr0 : r = []
      · subst hr0
        have HE : Hid (piecesL s cs = out ++ [[]]) := (by show _ = _; rw [HPL.out, pieces_nil])
        have HL : Hid (out.length + 1 ≤ 4398046511104) := (by show out.length + 1 ≤ _; omega)
        clear hol HX HIB
        go_wp2_with (first | (at_builtin; refine Tryz.appStr rfl _ _ rfl HROW.out HB.out.size rfl rfl (by simp) _ HL.out ?_; intro g1 cap1 w1 hr1 hb1) | fail)
        go_ret
        refine ⟨_, rfl, ?_, HB.out.trans hb1⟩
        rw [HE.out, List.length_append]
        simpa [strCells] using hr1
      · have hr1 : r.isEmpty = false := by simpa using hr0
        obtain ⟨g, o, rfl, c0⟩ : ∃ g o, ac = some ⟨g, o, none⟩ ∧ wr.cell? ⟨g, o + i, none⟩ = some (.int .i64 cs[i]) := by
          rcases HX.out with e | ⟨g, o, e, hg, hc⟩
          · rw [e] at hlt; cases hlt
          · exact ⟨g, o, e, (HB.out.cell (p := ⟨g, o + i, none⟩) hg).trans (hc i hlt)⟩
        have hci := HIB.out cs[i] (List.getElem_mem hlt)
        have kp := Tryz.pick_any cs[i] (r.length + 1) (by omega) (by omega) hci.1 hci.2 wr
        have HNX : Hid (piecesL s cs = out ++ (r.take (pickN cs[i] (r.length + 1)) :: piecesL (r.drop (pickN cs[i] (r.length + 1))) (cs.drop (i + 1)))) := (by show _ = _; rw [HPL.out, pieces_next hr0 hlt])
        have hpn := pickN_lt cs[i] (n := r.length + 1) (by omega)
        generalize pickN cs[i] (r.length + 1) = m at *
        generalize cs[i] = c at *
        have hwr : IntKind.i64.wrap ((r.length : Int) + 1) = (r.length : Int) + 1 := by rw [IntKind.wrap_i64]; omega
        have HL : Hid (out.length + 1 ≤ 4398046511104) := (by show out.length + 1 ≤ _; omega)
        clear hol HPL
        go_wp2_with (first
          | (go_at_call 11; refine kp.mono ?_; clear kp; rintro e w0 ⟨rfl, rfl⟩)
          | (at_builtin; refine Tryz.appStr rfl _ _ rfl HROW.out HB.out.size rfl rfl (by simp) _ HL.out ?_; intro g1 cap1 w1 hr1 hb1)
          | fail)
        go_roundw
        case rel =>
          refine ⟨i + 1, r.drop m, out ++ [r.take m], some ⟨g1, 0, none⟩, cap1, by simp, by omega, by rw [ext_drop], by rw [List.length_drop]; omega, by rw [List.length_append]; have := HO.out; simp only [List.length_cons, List.length_nil]; omega, by rw [HNX.out]; simp, by rw [List.length_append]; rfl, ?_, HB.out.trans hb1⟩
          rw [List.length_append]
          rw [ext_take] at hr1
          simpa [strCells] using hr1
        case measure => simp [intOf]; omega
    · have q : ¬ (i : Int) < (cs.length : Int) := by omega
      have HE : Hid (piecesL s cs = out ++ [r]) := (by show _ = _; rw [HPL.out, List.drop_of_length_le (by omega)]; rfl)
      have HL : Hid (out.length + 1 ≤ 4398046511104) := (by show out.length + 1 ≤ _; omega)
      clear hol HX HIB
      go_wp2_with (first | (at_builtin; refine Tryz.appStr rfl _ _ rfl HROW.out HB.out.size rfl rfl (by simp) _ HL.out ?_; intro g1 cap1 w1 hr1 hb1) | fail)
      go_ret
      refine ⟨_, rfl, ?_, HB.out.trans hb1⟩
      rw [HE.out, List.length_append]
      simpa [strCells] using hr1
end Go.Proofs
namespace Go.Wb
open Go.RowKit Go.Proofs
theorem pr_cell {l : List Pr} {i : Nat} (hi : i < l.length) : (prCells l)[i * 5]? = some (.string ⟨l[i].rq.method.toArray⟩) ∧ (prCells l)[i * 5 + 1]? = some (.string ⟨l[i].rq.target.toArray⟩) ∧ (prCells l)[i * 5 + 2]? = some l[i].vh ∧ (prCells l)[i * 5 + 3]? = some l[i].vb ∧ (prCells l)[i * 5 + 4]? = some (.bool l[i].rq.last) := by
  induction l generalizing i with
  | nil => cases hi
  | cons p r ih =>
    have e : prCells (p :: r) = .string ⟨p.rq.method.toArray⟩ :: .string ⟨p.rq.target.toArray⟩ :: p.vh :: p.vb :: .bool p.rq.last :: prCells r := rfl
    cases i with
    | zero => exact ⟨rfl, rfl, rfl, rfl, rfl⟩
    | succ i =>
      have := ih (i := i) (by simpa using hi)
      rw [e, show (i + 1) * 5 = i * 5 + 1 + 1 + 1 + 1 + 1 by omega]
      simpa using this
end Go.Wb
namespace Go.Proofs
open Go.RowKit Go.Wi Go.Wb
/-- A request of a row. -/
structure Tryz.At (w : World) (P : Nat → Prop) (V : Value) (g i : Nat) (p : Pr) : Prop where
  ok : Tryz.PrOk w P V p
  c0 : w.cell? ⟨g, i * 5, none⟩ = some (.string ⟨p.rq.method.toArray⟩)
  c1 : w.cell? ⟨g, i * 5 + 1, none⟩ = some (.string ⟨p.rq.target.toArray⟩)
  c2 : w.cell? ⟨g, i * 5 + 2, none⟩ = some p.vh
  c3 : w.cell? ⟨g, i * 5 + 3, none⟩ = some p.vb
  c4 : w.cell? ⟨g, i * 5 + 4, none⟩ = some (.bool p.rq.last)
theorem Tryz.rl_is {w : World} {P : Nat → Prop} {V : Value} {rs : List Rq} (h : Tryz.Rl w P V rs) : ∃ ad cap, V = .slice ad rs.length cap := by
  obtain ⟨ps, rfl, h2, -, -⟩ := h.ex
  rw [List.length_map]
  rcases h2.2 with ⟨rfl, h0⟩ | ⟨g, cap, cur, rfl, -⟩
  · exact ⟨none, 0, by rw [h0]⟩
  · exact ⟨_, _, rfl⟩
theorem Tryz.rl_at {w : World} {P : Nat → Prop} {V : Value} {rs : List Rq} (h : Tryz.Rl w P V rs) {i : Nat} (hi : i < rs.length) : ∃ g cap p, V = .slice (some ⟨g, 0, none⟩) rs.length cap ∧ g < w.heap.size ∧ P g ∧ p.rq = rs[i] ∧ Tryz.At w P V g i p := by
  obtain ⟨ps, rfl, h2, h3, h4⟩ := h.ex
  rw [List.length_map] at hi
  have hl := h2.1
  rcases h2.2 with ⟨rfl, h0⟩ | ⟨g, cap, cur, rfl, hB, hg, k1, k2, k3, k4⟩
  · omega
  · obtain ⟨e0, e1, e2, e3, e4⟩ := pr_cell hi
    have hc : ∀ (j : Nat) (v : Value), (prCells ps)[j]? = some v → w.cell? ⟨g, j, none⟩ = some v := fun j v hv => by
      rw [cell_of_row _ _ _ _ _ _ hg]
      rw [← k4, List.getElem?_take] at hv
      split at hv
      · rw [← Array.getElem?_toList]; exact hv
      · cases hv
    refine ⟨g, cap, ps[i], by rw [List.length_map], block_lt hg, h3 g rfl, by simp, ⟨h4 _ (List.getElem_mem hi), hc _ _ e0, hc _ _ e1, hc _ _ e2, hc _ _ e3, hc _ _ e4⟩⟩
end Go.Proofs
namespace Go.Proofs
open Go.RowKit Go.Wi Go.Wb
theorem Tryz.infoRow : (Tryz.prog.info? 45).map (fun i => (i.zero, i.size, i.bytes)) = some (some (.slice none 0 0), 1, 24) := by kernel_rfl
/-- 'append' of a row to rows. -/
theorem Tryz.appRow {ops : Array Oper} {rest : List Oper} {o : Oper} {a : Act} {Q : Exit → Act → World → Prop} (hgd : o.guard = none) (s y : Operand)
    (ho : o.op = .call { callee := .builtin .append, args := #[s, y], argTypes := #[52, 52] })
    {w : World} {B : Nat} {V : Value} {n : Nat} {vs : List Value} (hrow : w.ownsRow B 45 1 V n vs) (hB : B ≤ w.heap.size) (hs : a.eval s = V) {H : Nat} (hy : a.eval y = .slice (some ⟨H, 0, none⟩) 1 1) (hH : H = w.heap.size) (ad : Option Addr) (m c : Nat) (hlen : n + 1 ≤ 4398046511104)
    (hK : ∀ g cap w1, w1.ownsRow B 45 1 (.slice (some ⟨g, 0, none⟩) (n + 1) cap) (n + 1) (vs ++ [.slice ad m c]) → (V.ownBlock = some g ∨ w.heap.size ≤ g) → Wo (fun k => V.ownBlock = some k) w w1 → wpList Tryz.prog ops Q rest (a.put o.dst (.slice (some ⟨g, 0, none⟩) (n + 1) cap)) w1) : wpList Tryz.prog ops Q (o :: rest) a (w.alloc (.cells #[.slice ad m c] 45)) := by
  subst hH
  obtain ⟨i0, hi0, hz0, hz1, hz2⟩ := info_parts Tryz.infoRow
  have hn : (w.alloc (.cells #[.slice ad m c] 45)).heap[w.heap.size]? = some (.cells #[.slice ad m c] 45 (0, 0)) := heap_alloc_new w _
  have hb : Below w.heap.size w (w.alloc (.cells #[.slice ad m c] 45)) := (Below.refl w.heap.size w).alloc (Nat.le_refl _) _
  have hrow1 := row_keep hrow fun k e => hb.block k (hrow.lt k e).2
  have hsz : (w.alloc (.cells #[.slice ad m c] 45)).heap.size = w.heap.size + 1 := by simp
  refine wpList_append_lies _ hgd s y 52 ho B 45 i0 _ 1 24 Tryz.underlying52 hi0 hz0 hz1 hz2 rfl (by omega) V n vs hs hrow1 ⟨w.heap.size, 0, none⟩ 1 1 [.slice ad m c] hy rfl (World.news_of_block hn) (by simp [Value.oneCell']) (by omega) (by unfold maxLen; omega) (by omega) (by omega) _ rfl ?_
  intro g cap w' hown hg hat hlt
  refine hK g cap w' hown ?_ ((Wo.ofBelow hb).grown hg fun k e => .inl e)
  rcases hat with e1 | e1
  · exact .inl e1
  · exact .inr (by show w.heap.size ≤ g; rw [e1, hsz]; omega)
/-- Requests in a row of one's own above a floor, their parts lying below it. -/
structure Tryz.Rt (w : World) (B : Nat) (V : Value) (rs : List Rq) : Prop where
  ex : ∃ ps : List Pr, rs = ps.map (·.rq) ∧ w.ownsRow B 49 5 V ps.length (prCells ps) ∧ ∀ p ∈ ps, Tryz.PrOk w (fun k => k < B) .nilFunc p
theorem Tryz.Rt.none (w : World) (B : Nat) : Tryz.Rt w B (.slice .none 0 0) [] := ⟨[], rfl, World.ownsRow_nil _ _ _ _, (fun p hp => by cases hp)⟩
theorem Tryz.rt_rl {w : World} {B : Nat} {V : Value} {rs : List Rq} (h : Tryz.Rt w B V rs) : Tryz.Rl w (fun _ => True) V rs := by
  obtain ⟨ps, h1, h2, h3⟩ := h.ex
  refine ⟨ps, h1, row_base h2 fun k _ => Nat.zero_le k, fun _ _ => trivial, fun p hp => ⟨(h3 p hp).heads, (h3 p hp).body, fun k e => ⟨trivial, fun e2 => ?_⟩, fun k e => ⟨trivial, fun e2 => ?_⟩⟩⟩
  · have a1 : k < B := ((h3 p hp).ph k e).1
    have a2 := (h2.lt k e2).1
    omega
  · have a1 : k < B := ((h3 p hp).pb k e).1
    have a2 := (h2.lt k e2).1
    omega
theorem prCells_one {l : List Pr} : ∀ u ∈ prCells l, u.oneCell' = true := by
  intro u hu
  unfold prCells at hu
  obtain ⟨p, _, hu⟩ := List.mem_flatMap.1 hu
  simp only [Pr.cells, List.mem_cons, List.not_mem_nil, or_false] at hu
  rcases hu with rfl | rfl | rfl | rfl | rfl <;> rfl
set_option maxRecDepth 20000 in
/-- 'append' of a whole row of requests. -/
theorem Tryz.appReqs {ops : Array Oper} {rest : List Oper} {o : Oper} {a : Act} {Q : Exit → Act → World → Prop} (hgd : o.guard = none) (s y : Operand)
    (ho : o.op = .call { callee := .builtin .append, args := #[s, y], argTypes := #[45, 45] })
    {w : World} {B : Nat} {V Y : Value} {rs rs2 : List Rq} {P : Nat → Prop} (hV : Tryz.Rt w B V rs) (hB : B ≤ w.heap.size) (hs : a.eval s = V) (hY : Tryz.Rl w P Y rs2) (hP : ∀ k, P k → k < B) (hy : a.eval y = Y) (hlen : rs.length + rs2.length ≤ 100000000)
    (hK : ∀ v' w', Tryz.Rt w' B v' (rs ++ rs2) → Below B w w' → wpList Tryz.prog ops Q rest (a.put o.dst v') w') : wpList Tryz.prog ops Q (o :: rest) a w := by
  obtain ⟨i0, hi0, hz0, hz1, hz2⟩ := info_parts Tryz.infoReq
  obtain ⟨ps, rfl, h2, h3⟩ := hV.ex
  obtain ⟨qs, rfl, g2, g3, g4⟩ := hY.ex
  rw [List.length_map, List.length_map] at hlen
  have hqk : ∀ q ∈ qs, ∀ w', Below B w w' → Tryz.PrOk w' (fun k => k < B) .nilFunc q := fun q hq w' hb => ⟨row_keep (g4 q hq).heads fun k e => hb.block k (hP k ((g4 q hq).ph k e).1), row_keep (g4 q hq).body fun k e => hb.block k (hP k ((g4 q hq).pb k e).1), fun k e => ⟨hP k ((g4 q hq).ph k e).1, (fun e => by cases e)⟩, fun k e => ⟨hP k ((g4 q hq).pb k e).1, (fun e => by cases e)⟩⟩
  have hpk : ∀ q ∈ ps, ∀ w', Below B w w' → Tryz.PrOk w' (fun k => k < B) .nilFunc q := fun q hq w' hb => ⟨row_keep (h3 q hq).heads fun k e => hb.block k ((h3 q hq).ph k e).1, row_keep (h3 q hq).body fun k e => hb.block k ((h3 q hq).pb k e).1, (h3 q hq).ph, (h3 q hq).pb⟩
  have fin : ∀ v' w', w'.ownsRow B 49 5 v' (ps.length + qs.length) (prCells ps ++ prCells qs) → Below B w w' → Tryz.Rt w' B v' (ps.map (·.rq) ++ qs.map (·.rq)) := fun v' w' hr hb => by
    refine ⟨ps ++ qs, by rw [List.map_append], ?_, fun q hq => ?_⟩
    · rw [List.length_append, prCells_app]; exact hr
    · rcases List.mem_append.1 hq with hq | hq
      · exact hpk q hq w' hb
      · exact hqk q hq w' hb
  rcases g2.2 with ⟨rfl, e0⟩ | ⟨g, cap, cur, rfl, hBg, hg, k1, k2, k3, k4⟩
  · have e1 : qs = [] := List.eq_nil_of_length_eq_zero e0
    subst e1
    refine wpList_append_own_none hgd s y _ ho B 49 i0 5 Tryz.underlying45 hi0 V ps.length _ hs h2 hy (hK V w (fin V w ?_ (Below.refl _ _)) (Below.refl _ _))
    show w.ownsRow B 49 5 V (ps.length + 0) (prCells ps ++ [])
    rw [List.append_nil]
    exact h2
  · have hl5 := prCells_len qs
    refine wpList_append_own _ hgd s y 45 ho B 49 i0 _ 5 88 Tryz.underlying45 hi0 hz0 hz1 hz2 rfl (by omega) V ps.length _ hs h2 ⟨g, 0, none⟩ qs.length cap (prCells qs) hy hl5 ?_ prCells_one (by unfold maxLen; omega) (by omega) hB ?_
    · intro j u hu
      rw [Wb.add_at, cell_of_row _ _ _ _ _ _ hg]
      rw [← k4, List.getElem?_take] at hu
      split at hu
      · rw [← Array.getElem?_toList]; exact hu
      · cases hu
    · intro v' w' r1 r2 r3
      exact hK v' w' (fin v' w' r1 ((Below.refl B w).grown r2 (by omega) fun k e => (h2.lt k e).1)) ((Below.refl B w).grown r2 (by omega) fun k e => (h2.lt k e).1)
end Go.Proofs
namespace Go.Proofs
open Go.RowKit Go.Wi Go.Wb
/-- Blocks that nothing turns. -/
def Wb.Free (F : Nat) (oP oO : Nat → Prop) (VC : Value) (k : Nat) : Prop := F ≤ k ∧ ¬ oP k ∧ ¬ oO k ∧ VC.ownBlock ≠ some k
structure Tryz.PS (w0 w : World) (oP oO : Nat → Prop) (bp bo : Nat) (mP mO : Msg) (VW VL VC : Value) (rsW : List Rq) (L : List (List UInt8)) (cm : List (Value × List Rq)) : Prop where
  bel : Below w0.heap.size w0 w
  pP : Tryz.Ms 82 w oP bp mP
  pO : Tryz.Ms 82 w oO bo mO
  hP : ∀ k, oP k → w0.heap.size ≤ k ∧ ¬ oO k ∧ VC.ownBlock ≠ some k
  hO : ∀ k, oO k → w0.heap.size ≤ k ∧ VC.ownBlock ≠ some k
  whole : Tryz.Rl w (Wb.Free w0.heap.size oP oO VC) VW rsW
  row : w.ownsRow w0.heap.size 9 1 VL L.length (strCells L)
  rowB : ∀ k, VL.ownBlock = some k → Wb.Free w0.heap.size oP oO VC k
  came : w.ownsRow w0.heap.size 45 1 VC cm.length (cm.map (·.1))
  each : ∀ x ∈ cm, Tryz.Rl w (Wb.Free w0.heap.size oP oO VC) x.1 x.2
theorem Tryz.ms_lt {T : TypeId} {w : World} {own : Nat → Prop} {b : Nat} {m : Msg} (h : Tryz.Ms T w own b m) : ∀ k, own k → k < w.heap.size := by
  obtain ⟨aw, cw, ah, ch, ab, cb, hm⟩ := h.ex
  exact hm.lt
theorem Tryz.ms_keep {T : TypeId} {w w' : World} {own : Nat → Prop} {b : Nat} {m : Msg} (h : Tryz.Ms T w own b m) (hk : ∀ k, own k → w'.heap[k]? = w.heap[k]?) (hs : w.heap.size ≤ w'.heap.size) : Tryz.Ms T w' own b m := by
  obtain ⟨aw, cw, ah, ch, ab, cb, hm⟩ := h.ex
  exact ⟨aw, cw, ah, ch, ab, cb, hm.keep hk hs⟩
variable {w0 w w1 : World} {oP oO : Nat → Prop} {bp bo : Nat} {mP mO : Msg} {VW VL VC : Value} {rsW : List Rq} {L : List (List UInt8)} {cm : List (Value × List Rq)}
theorem Tryz.ps_below (h : Tryz.PS w0 w oP oO bp bo mP mO VW VL VC rsW L cm) (hb : Below w.heap.size w w1) : Tryz.PS w0 w1 oP oO bp bo mP mO VW VL VC rsW L cm :=
  ⟨h.bel.trans (hb.mono h.bel.size), h.pP.below hb, h.pO.below hb, h.hP, h.hO, h.whole.keep fun k hk hp => ⟨hb.block k hk, hp⟩, row_keep h.row fun k e => hb.block k (h.row.lt k e).2, h.rowB, row_keep h.came fun k e => hb.block k (h.came.lt k e).2, fun x hx => (h.each x hx).keep fun k hk hp => ⟨hb.block k hk, hp⟩⟩
/-- The second parser is fed. -/
theorem Tryz.ps_fed (h : Tryz.PS w0 w oP oO bp bo mP mO VW VL VC rsW L cm) {m' : Msg} {V ev : Value} {rs : List Rq} {oO' : Nat → Prop} (hF : Tryz.Fed oO w w1 bo m' V ev rs oO') :
    Tryz.PS w0 w1 oP oO' bp bo mP m' VW VL VC rsW L cm ∧ Tryz.Rl w1 (Wb.Free w0.heap.size oP oO' VC) V rs := by
  have hs := h.bel.size
  have hlP := Tryz.ms_lt h.pP
  have hlO := Tryz.ms_lt h.pO
  have hno : ∀ k, k < w.heap.size → ¬ oO k → ¬ oO' k := fun k hk hn e => by
    rcases hF.sub k e with e1 | e1
    · exact hn e1
    · omega
  have hfr : ∀ k, k < w.heap.size → Wb.Free w0.heap.size oP oO VC k → w1.heap[k]? = w.heap[k]? ∧ Wb.Free w0.heap.size oP oO' VC k := fun k hk hp => ⟨hF.wo.block k hk hp.2.2.1, hp.1, hp.2.1, hno k hk hp.2.2.1, hp.2.2.2⟩
  refine ⟨⟨Wo.toBelow h.bel hF.wo (fun k e => (h.hO k e).1) hs, Tryz.ms_keep h.pP (fun k e => hF.wo.block k (hlP k e) (h.hP k e).2.1) hF.wo.size, hF.ms, fun k e => ⟨(h.hP k e).1, hno k (hlP k e) (h.hP k e).2.1, (h.hP k e).2.2⟩, fun k e => ?_, h.whole.keep hfr, row_keep h.row fun k e => (hfr k (h.row.lt k e).2 (h.rowB k e)).1, fun k e => (hfr k (h.row.lt k e).2 (h.rowB k e)).2, row_keep h.came fun k e => hF.wo.block k (h.came.lt k e).2 fun e2 => (h.hO k e2).2 e, fun x hx => (h.each x hx).keep hfr⟩, hF.rl.keep fun k hk hp => ⟨rfl, ?_⟩⟩
  · rcases hF.sub k e with e1 | e1
    · exact h.hO k e1
    · exact ⟨by omega, fun e2 => by have := (h.came.lt k e2).2; omega⟩
  · obtain ⟨hp1, hp2⟩ := hp
    rcases hp1 with e1 | e1
    · exact ⟨(h.hO k e1).1, fun e2 => (h.hP k e2).2.1 e1, hp2, (h.hO k e1).2⟩
    · exact ⟨by omega, fun e2 => by have := hlP k e2; omega, hp2, fun e2 => by have := (h.came.lt k e2).2; omega⟩
/-- What came is kept. -/
theorem Tryz.ps_app (h : Tryz.PS w0 w oP oO bp bo mP mO VW VL VC rsW L cm) {V : Value} {rs : List Rq} (hV : Tryz.Rl w (Wb.Free w0.heap.size oP oO VC) V rs) {g n cap : Nat} (hn : n = cm.length + 1) (hr : w1.ownsRow w0.heap.size 45 1 (.slice (some ⟨g, 0, none⟩) n cap) n (cm.map (·.1) ++ [V])) (hg : VC.ownBlock = some g ∨ w.heap.size ≤ g) (hw : Wo (fun k => VC.ownBlock = some k) w w1) :
    Tryz.PS w0 w1 oP oO bp bo mP mO VW VL (.slice (some ⟨g, 0, none⟩) n cap) rsW L (cm ++ [(V, rs)]) := by
  subst hn
  have hs := h.bel.size
  have hlP := Tryz.ms_lt h.pP
  have hlO := Tryz.ms_lt h.pO
  have hne : ∀ k, k < w.heap.size → VC.ownBlock ≠ some k → (Value.slice (some ⟨g, 0, none⟩) (cm.length + 1) cap).ownBlock ≠ some k := fun k hk hv e => by
    cases e
    rcases hg with e1 | e1
    · exact hv e1
    · have : g < w.heap.size := hk
      omega
  have hfr : ∀ k, k < w.heap.size → Wb.Free w0.heap.size oP oO VC k → w1.heap[k]? = w.heap[k]? ∧ Wb.Free w0.heap.size oP oO (.slice (some ⟨g, 0, none⟩) (cm.length + 1) cap) k := fun k hk hp => ⟨hw.block k hk hp.2.2.2, hp.1, hp.2.1, hp.2.2.1, hne k hk hp.2.2.2⟩
  refine ⟨Wo.toBelow h.bel hw (fun k e => (h.came.lt k e).1) hs, Tryz.ms_keep h.pP (fun k e => hw.block k (hlP k e) (h.hP k e).2.2) hw.size, Tryz.ms_keep h.pO (fun k e => hw.block k (hlO k e) (h.hO k e).2) hw.size, fun k e => ⟨(h.hP k e).1, (h.hP k e).2.1, hne k (hlP k e) (h.hP k e).2.2⟩, fun k e => ⟨(h.hO k e).1, hne k (hlO k e) (h.hO k e).2⟩, h.whole.keep hfr, row_keep h.row fun k e => (hfr k (h.row.lt k e).2 (h.rowB k e)).1, fun k e => (hfr k (h.row.lt k e).2 (h.rowB k e)).2, ?_, fun x hx => ?_⟩
  · rw [List.length_append, List.map_append]
    exact hr
  · rcases List.mem_append.1 hx with hx | hx
    · exact (h.each x hx).keep hfr
    · rw [List.mem_singleton.1 hx]; exact hV.keep hfr
end Go.Proofs
