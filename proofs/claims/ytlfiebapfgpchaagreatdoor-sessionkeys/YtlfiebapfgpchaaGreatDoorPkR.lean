/-
  Laid together by pack.py of Sr Ss.
-/
import Derived.Test.YtlfiebapfgpchaaGreatDoorPkK
namespace Go.Proofs
open Go.RowKit Go.Wi Go.Se Go.Ct
set_option maxHeartbeats 1000000 in
theorem Tryz.timeOf_any {w : World} {own : Nat → Prop} {kb : Nat} {key : List UInt8} {n : Nu} {L : List ({x : Tk // x.ok} × Int)} {o : Option {x : Tk // x.ok}} {D : List (ByteArray × Int)} (h : Tryz.Kp w own kb key n L o D) (now : Int) :
    Calls Tryz.prog 43 #[.pointer (some ⟨kb, 0, none⟩), .int .i64 now] w fun e w' => e = .returned (.int .i64 (max now n.latest)) ∧ w' = w := by
  obtain ⟨V, pb, db, h1⟩ := h.cells
  have c4 : w.cell? ⟨kb, 4, none⟩ = some (.int .i64 n.latest) := cell_of_row w kb 4 _ _ _ h1
  clear h h1
  generalize n.latest = a at *
  go_enter Tryz.func43, Tryz.ntmps43
  go_wp2
  go_ret
  exact ⟨rfl, rfl⟩
/-- A keeper's dues have turned. -/
theorem Tryz.Kp.dues {w w' : World} {own ok op od : Nat → Prop} {kb pb db : Nat} {key : List UInt8} {n : Nu} {L : List ({x : Tk // x.ok} × Int)} {o : Option {x : Tk // x.ok}} {D' : List (ByteArray × Int)} {V : Value}
    (h1 : w.heap[kb]? = some (.cells #[V, .int .i64 n.life, .int .i64 n.burst, .int .i64 n.rate, .int .i64 n.latest, .int .i64 n.given, .pointer (some ⟨pb, 0, none⟩), .pointer (some ⟨db, 0, none⟩)] 50 (0, 0))) (h2 : Bs w V key) (h3 : ∀ k, V.ownBlock = some k → ok k) (h4 : Tryz.Pu w op pb L o)
    (h6 : ∀ k, ok k → own k ∧ k ≠ kb ∧ ¬ op k ∧ ¬ od k) (h7 : ∀ k, op k → own k ∧ k ≠ kb ∧ ¬ od k) (h8 : ∀ k, od k → own k ∧ k ≠ kb) (hkb : own kb) (hl : ∀ k, own k → k < w.heap.size) (hc : Tryz.SChgS od w w' db D') : Tryz.KChg own w w' kb key n L o D' := by
  obtain ⟨od', q1, q2⟩ := hc.ex
  have hs := hc.wo.size
  refine ⟨⟨fun k => own k ∨ (w.heap.size ≤ k ∧ k < w'.heap.size), ⟨⟨V, pb, db, ok, op, od', (hc.wo.block kb (hl kb hkb) fun e => (h8 kb e).2 rfl).trans h1, h2.keep fun k e => hc.wo.block k (hl k (h6 k (h3 k e)).1) (h6 k (h3 k e)).2.2.2, h3, h4.keep (fun k e => hc.wo.block k (hl k (h7 k e).1) (h7 k e).2.2) hs, q1, fun k e => ⟨.inl (h6 k e).1, (h6 k e).2.1, (h6 k e).2.2.1, fun e' => ?_⟩, fun k e => ⟨.inl (h7 k e).1, (h7 k e).2.1, fun e' => ?_⟩, fun k e => ?_⟩, .inl hkb, fun k e => ?_⟩, fun k e => e.imp id (·.1)⟩, hc.wo.mono fun k e => (h8 k e).1⟩
  · rcases q2 k e' with e1 | e1
    · exact (h6 k e).2.2.2 e1
    · have := hl k (h6 k e).1
      omega
  · rcases q2 k e' with e1 | e1
    · exact (h7 k e).2.2 e1
    · have := hl k (h7 k e).1
      omega
  · rcases q2 k e with e1 | e1
    · exact ⟨.inl (h8 k e1).1, (h8 k e1).2⟩
    · exact ⟨.inr ⟨e1, q1.lt k e⟩, fun e2 => by have := hl kb hkb; omega⟩
  · rcases e with e1 | e1
    · have := hl k e1
      omega
    · exact e1.2
/-- A keeper's purse has turned. -/
theorem Tryz.Kp.purse {w w' : World} {own ok op od : Nat → Prop} {kb pb db : Nat} {key : List UInt8} {n : Nu} {L' : List ({x : Tk // x.ok} × Int)} {o' : Option {x : Tk // x.ok}} {D : List (ByteArray × Int)} {V : Value}
    (h1 : w.heap[kb]? = some (.cells #[V, .int .i64 n.life, .int .i64 n.burst, .int .i64 n.rate, .int .i64 n.latest, .int .i64 n.given, .pointer (some ⟨pb, 0, none⟩), .pointer (some ⟨db, 0, none⟩)] 50 (0, 0))) (h2 : Bs w V key) (h3 : ∀ k, V.ownBlock = some k → ok k) (h5 : Tryz.ShS w od db D)
    (h6 : ∀ k, ok k → own k ∧ k ≠ kb ∧ ¬ op k ∧ ¬ od k) (h7 : ∀ k, op k → own k ∧ k ≠ kb ∧ ¬ od k) (h8 : ∀ k, od k → own k ∧ k ≠ kb) (hkb : own kb) (hl : ∀ k, own k → k < w.heap.size) (hc : Tryz.PChg op w w' pb L' o') : Tryz.KChg own w w' kb key n L' o' D := by
  obtain ⟨op', q1, q2⟩ := hc.ex
  have hs := hc.wo.size
  refine ⟨⟨fun k => own k ∨ (w.heap.size ≤ k ∧ k < w'.heap.size), ⟨⟨V, pb, db, ok, op', od, (hc.wo.block kb (hl kb hkb) fun e => (h7 kb e).2.1 rfl).trans h1, h2.keep fun k e => hc.wo.block k (hl k (h6 k (h3 k e)).1) (h6 k (h3 k e)).2.2.1, h3, q1, h5.keep (fun k e => hc.wo.block k (hl k (h8 k e).1) fun e' => (h7 k e').2.2 e) hs, fun k e => ⟨.inl (h6 k e).1, (h6 k e).2.1, fun e' => ?_, (h6 k e).2.2.2⟩, fun k e => ?_, fun k e => ⟨.inl (h8 k e).1, (h8 k e).2⟩⟩, .inl hkb, fun k e => ?_⟩, fun k e => e.imp id (·.1)⟩, hc.wo.mono fun k e => (h7 k e).1⟩
  · rcases q2 k e' with e1 | e1
    · exact (h6 k e).2.2.1 e1
    · have := hl k (h6 k e).1
      omega
  · rcases q2 k e with e1 | e1
    · exact ⟨.inl (h7 k e1).1, (h7 k e1).2.1, (h7 k e1).2.2⟩
    · exact ⟨.inr ⟨e1, q1.lt k e⟩, fun e2 => (by have := hl kb hkb; omega), fun e2 => by have := hl k (h8 k e2).1; omega⟩
  · rcases e with e1 | e1
    · have := hl k e1
      omega
    · exact e1.2
/-- What is left of the dues at a time. -/
def Tryz.Left (D D' : List (ByteArray × Int)) (T : Int) : Prop := (D = [] ∧ D' = []) ∨ (∃ x d, D = [(x, d)] ∧ T < d ∧ D' = D) ∨ (∃ x d, D = [(x, d)] ∧ d ≤ T ∧ D' = [])
theorem Tryz.dropS_left {w : World} {own : Nat → Prop} {b : Nat} {D D' : List (ByteArray × Int)} (h : Tryz.ShS w own b D) (T : Int) (hD : Tryz.Left D D' T) :
    Calls Tryz.prog 45 #[.pointer (some ⟨b, 0, none⟩), .int .i64 T] w fun e w' => (∃ v, e = .returned v) ∧ Tryz.SChgS own w w' b D' := by
  rcases hD with ⟨rfl, rfl⟩ | ⟨x, d, rfl, hd, rfl⟩ | ⟨x, d, rfl, hd, rfl⟩
  · exact (Tryz.dropS_nil h T).mono fun e w' ⟨e1, e2⟩ => ⟨⟨_, e1⟩, by rw [e2]; exact Tryz.SChgS.refl h⟩
  · exact (Tryz.dropS_not h T hd).mono fun e w' ⟨e1, e2⟩ => ⟨⟨_, e1⟩, by rw [e2]; exact Tryz.SChgS.refl h⟩
  · obtain ⟨V, m, h1, h2, h3, h4, h5, h6, h7, h8⟩ := h.ex
    exact Tryz.dropS_one h (h3.dom (x := x) (v := .int .i64 0) (by rw [Tryz.atS_one, if_pos rfl])) T hd
set_option maxHeartbeats 4000000 in
set_option maxRecDepth 4000 in
theorem Tryz.moveOn_any {w : World} {own : Nat → Prop} {kb : Nat} {key : List UInt8} {n : Nu} {L : List ({x : Tk // x.ok} × Int)} {o : Option {x : Tk // x.ok}} {D D' : List (ByteArray × Int)} (h : Tryz.Kp w own kb key n L o D) (now : Int) (hL : Tryz.Late L (max now n.latest)) (hD : Tryz.Left D D' (max now n.latest)) :
    Calls Tryz.prog 22 #[.pointer (some ⟨kb, 0, none⟩), .int .i64 now] w fun e w' => (∃ v, e = .returned v) ∧ Tryz.KChg own w w' kb key { n with latest := max now n.latest } L o D' := by
  have htm := Tryz.timeOf_any h now
  obtain ⟨T, hT⟩ : ∃ T, T = max now n.latest := ⟨_, rfl⟩
  rw [← hT] at hL hD htm ⊢
  have hK1 := h.set (n' := { n with latest := T }) 4 (.int .i64 T) (fun _ _ _ => rfl)
  have hwo1 : Wo own w (w.setCell ⟨kb, 4, none⟩ (.int .i64 T)) := (Wo.refl own w).setCell kb 4 _ (.inl h.okb)
  obtain ⟨V0, pb0, db0, hc0⟩ := h.cells
  have c4 : w.cell? ⟨kb, 4, none⟩ = some (.int .i64 n.latest) := cell_of_row w kb 4 _ _ _ hc0
  have f4 := frozen_of_row w kb 4 _ _ hc0
  clear hc0 h hT
  go_enter Tryz.func22, Tryz.ntmps22
  go_upto_region 1 with (first
    | (go_at_call 43; refine htm.mono ?_; clear htm; rintro e w1 ⟨rfl, rfl⟩)
    | fail)
  clear c4 f4
  generalize w1.setCell ⟨kb, 4, none⟩ (.int .i64 T) = W at hK1 hwo1 ⊢
  obtain ⟨V, pb, db, ok, op, od, h1, h2, h3, h4, h5, h6, h7, h8⟩ := hK1.ex
  have c4 : W.cell? ⟨kb, 4, none⟩ = some (.int .i64 T) := cell_of_row W kb 4 _ _ _ h1
  have c6 : W.cell? ⟨kb, 6, none⟩ = some (.pointer (some ⟨pb, 0, none⟩)) := cell_of_row W kb 6 _ _ _ h1
  have c7 : W.cell? ⟨kb, 7, none⟩ = some (.pointer (some ⟨db, 0, none⟩)) := cell_of_row W kb 7 _ _ _ h1
  have hpd := fun m => Tryz.pdrop_not (h4.keep (w' := W.drewN m) (fun _ _ => rfl) (Nat.le_refl _)) T hL
  have hdd := fun m => Tryz.dropS_left (h5.keep (w' := W.drewN m) (fun _ _ => rfl) (Nat.le_refl _)) T hD
  (refine Go.Lq.wp_region_lastN (fun w' => ∃ k, w' = _root_.Go.World.drewN _ k) 8 (by kernel_rfl) (by kernel_rfl) ⟨1, rfl⟩ ?_; dsimp only [List.dropLast]; (repeat (quiet_step (fail))); refine wpQuiet_nil ?_; intro _ hw'; obtain ⟨nq, hw''⟩ := hw'; subst hw''; refine Go.Lq.wpOp_last rfl rfl ?_; unfold Oper.wp; go_simp)
  refine (hpd nq).mono ?_
  rintro e w2 ⟨⟨v, rfl⟩, rfl⟩
  generalize nq = n1
  go_wp2
  (refine Go.Lq.wp_region_lastN (fun w' => ∃ k, w' = _root_.Go.World.drewN _ k) 8 (by kernel_rfl) (by kernel_rfl) ⟨1, rfl⟩ ?_; dsimp only [List.dropLast]; (repeat (quiet_step (fail))); refine wpQuiet_nil ?_; intro _ hw'; obtain ⟨nq, hw''⟩ := hw'; subst hw''; refine Go.Lq.wpOp_last rfl rfl ?_; unfold Oper.wp; go_simp)
  refine (hdd (n1 + nq)).mono ?_
  rintro e w3 ⟨⟨v3, rfl⟩, hc⟩
  go_wp2
  go_end0
  refine ⟨⟨_, rfl⟩, Tryz.KChg.trans (own1 := own) (hwo1.drewN (n1 + nq)) (fun k e => .inl e) ?_⟩
  have hKn := hK1.keep (w' := W.drewN (n1 + nq)) (fun _ _ => rfl) (Nat.le_refl _)
  exact Tryz.Kp.dues (n := { n with latest := T }) (V := V) (pb := pb) (L := L) (o := o) (op := op) (ok := ok) h1 (h2.keep fun _ _ => rfl) h3 (h4.keep (fun _ _ => rfl) (Nat.le_refl _)) h6 h7 h8 hK1.okb hK1.lt hc
end Go.Proofs
namespace Go.Proofs
open Go.RowKit Go.Wi Go.Se Go.Ct
/-- The due of the only user. -/
def Se.dueOf (D : List (ByteArray × Int)) : Int := match D with
  | [] => 0
  | p :: _ => p.2
theorem Se.wrap_in (x : Int) (h1 : -9223372036854775808 ≤ x) (h2 : x ≤ 9223372036854775807) : IntKind.i64.wrap x = x := by
  simp [IntKind.wrap, IntKind.bits, IntKind.signed]
  omega
/-- Nobody but u has a due. -/
def Se.Only (u : ByteArray) (D : List (ByteArray × Int)) : Prop := D = [] ∨ ∃ d, D = [(u, d)]
set_option maxHeartbeats 4000000 in
set_option maxRecDepth 4000 in
theorem Tryz.allow_in {w : World} {own : Nat → Prop} {kb : Nat} {key : List UInt8} {n : Nu} {L : List ({x : Tk // x.ok} × Int)} {o : Option {x : Tk // x.ok}} {D D' : List (ByteArray × Int)} (h : Tryz.Kp w own kb key n L o D) (hm : Se.Nu.May n) (hl0 : 0 ≤ n.latest) (hl1 : n.latest ≤ 1000000000) (u : ByteArray) (hu1 : 1 ≤ u.size) (hu2 : u.size ≤ 60) (now : Int) (hn0 : 0 ≤ now) (hn1 : now ≤ 1000000000)
    (hL : Tryz.Late L (max now n.latest)) (hD : Tryz.Left D D' (max now n.latest)) (hO : Se.Only u D') (hd0 : 0 ≤ Se.dueOf D') (hd1 : Se.dueOf D' ≤ 4000000000) :
    Calls Tryz.prog 10 #[.pointer (some ⟨kb, 0, none⟩), .string u, .int .i64 now] w fun e w' =>
      if Se.dueOf D' - (n.burst - 1) * n.rate - max now n.latest > 0 then e = .returned (.tuple #[.bool false, .int .i64 (Se.dueOf D' - (n.burst - 1) * n.rate - max now n.latest)]) ∧ Tryz.KChg own w w' kb key { n with latest := max now n.latest } L o D'
      else e = .returned (.tuple #[.bool true, .int .i64 0]) ∧ Tryz.KChg own w w' kb key { n with latest := max now n.latest } L o [(u, max (Se.dueOf D') (max now n.latest) + n.rate)] := by
  have hiu := Tryz.isUser_any u w
  have hit := Tryz.isTime_any now w
  rw [Se.dec2 (by omega) (by omega)] at hiu hit
  have hmo := Tryz.moveOn_any h now hL hD
  obtain ⟨⟨m1, m2⟩, ⟨m3, m4⟩, m5, m6⟩ := hm
  have hp0 : 0 ≤ (n.burst - 1) * n.rate := Int.mul_nonneg (by omega) (by omega)
  have hp1 : (n.burst - 1) * n.rate ≤ 99 * 1000000 := Int.mul_le_mul (by omega) m6 (by omega) (by omega)
  have hT0 : 0 ≤ max now n.latest := by omega
  have hT1 : max now n.latest ≤ 1000000000 := by omega
  obtain ⟨T, hT⟩ : ∃ T, T = max now n.latest := ⟨_, rfl⟩
  obtain ⟨d, hd⟩ : ∃ d, d = Se.dueOf D' := ⟨_, rfl⟩
  rw [← hT] at hmo hT0 hT1 ⊢
  rw [← hd] at hd0 hd1 ⊢
  obtain ⟨a, hna⟩ : ∃ a, a = n.burst := ⟨_, rfl⟩
  obtain ⟨r, hnr⟩ : ∃ r, r = n.rate := ⟨_, rfl⟩
  obtain ⟨l, hnl⟩ : ∃ l, l = n.life := ⟨_, rfl⟩
  obtain ⟨gv, hng⟩ : ∃ gv, gv = n.given := ⟨_, rfl⟩
  rw [← hna, ← hnr] at hp0 hp1 ⊢
  rw [← hnr] at m5 m6
  rw [← hna] at m3 m4
  obtain ⟨M, hM⟩ : ∃ M, M = (a - 1) * r := ⟨_, rfl⟩
  rw [← hM] at hp0 hp1 ⊢
  have hun : ∀ w', Tryz.KChg own w w' kb key { n with latest := T } L o D' → ∃ V pb db, w'.heap[kb]? = some (.cells #[V, .int .i64 l, .int .i64 a, .int .i64 r, .int .i64 T, .int .i64 gv, .pointer (some ⟨pb, 0, none⟩), .pointer (some ⟨db, 0, none⟩)] 50 (0, 0)) ∧
      (Calls Tryz.prog 23 #[.pointer (some ⟨db, 0, none⟩), .string u] w' fun e w2 => e = .returned (.int .i64 d) ∧ Below w'.heap.size w' w2) ∧
      (∀ w2 (v : Int), Below w'.heap.size w' w2 → Calls Tryz.prog 24 #[.pointer (some ⟨db, 0, none⟩), .string u, .int .i64 v] w2 fun e w3 => (∃ v, e = .returned v) ∧ Tryz.KChg own w w3 kb key { n with latest := T } L o [(u, v)]) := fun w' hc => by
    obtain ⟨own', hK, ho⟩ := hc.ex
    obtain ⟨V, pb, db, ok, op, od, h1, h2, h3, h4, h5, h6, h7, h8⟩ := hK.ex
    have huk : (Tryz.txtKy).ok u := by show u.size ≤ maxLen; unfold maxLen; omega
    refine ⟨V, pb, db, by rw [hna, hnr, hnl, hng]; exact h1, ?_, fun w2 v hb => ?_⟩
    · have h5m := h5
      rcases hO with e | ⟨d2, e⟩
      · subst e
        rw [hd]
        exact Tryz.untilS_nil h5m u huk
      · subst e
        rw [hd]
        refine (Tryz.untilS_one h5m u huk).mono fun e w2 ⟨e1, e2⟩ => ⟨?_, e2⟩
        rw [if_pos rfl] at e1
        exact e1
    · have h5m := h5.keep (w' := w2) (fun k e => hb.block k (h5.lt k e)) hb.size
      have hfin : ∀ w3, Tryz.SChgS od w2 w3 db [(u, v)] → Tryz.KChg own w w3 kb key { n with latest := T } L o [(u, v)] := fun w3 hs => by
        have hKb := hK.keep (w' := w2) (fun k e => hb.block k (hK.lt k e)) hb.size
        have := Tryz.Kp.dues (n := { n with latest := T }) (V := V) (pb := pb) (L := L) (o := o) (op := op) (ok := ok) (own := own') ((hb.block kb (hK.lt kb hK.okb)).trans h1) (h2.keep fun k e => hb.block k (hK.lt k (h6 k (h3 k e)).1)) h3 (h4.keep (fun k e => hb.block k (h4.lt k e)) hb.size) h6 h7 h8 hK.okb hKb.lt hs
        exact Tryz.KChg.trans (hc.wo.below hb hc.wo.size) ho this
      rcases hO with e | ⟨d2, e⟩
      · subst e
        exact (Tryz.putS_new h5m u v huk).mono fun e w3 ⟨e1, e2⟩ => ⟨e1, hfin w3 e2⟩
      · subst e
        exact (Tryz.putS_same h5m v huk).mono fun e w3 ⟨e1, e2⟩ => ⟨e1, hfin w3 e2⟩
  have k1 := Se.wrap_in (a - 1) (by omega) (by omega)
  have k2 : IntKind.i64.wrap ((a - 1) * r) = M := by rw [hM]; exact Se.wrap_in _ (by omega) (by omega)
  have k3 := Se.wrap_in (d - M) (by omega) (by omega)
  have k4 := Se.wrap_in (d - M - T) (by omega) (by omega)
  have Hna : Hid (a = n.burst) := hna
  have Hnr : Hid (r = n.rate) := hnr
  clear h hL hD hO m1 m2 hna hnr hnl hng hT hd hM hl0 hl1 hn0 hn1 hu1 hu2
  by_cases hw : d - M - T > 0
  · simp only [if_pos hw]
    go_enter Tryz.func10, Tryz.ntmps10
    go_upto_region 5 with (first
      | (go_at_call 20; refine hiu.mono ?_; clear hiu; rintro e w1 ⟨rfl, rfl⟩)
      | (go_at_call 21; refine hit.mono ?_; clear hit; rintro e w1 ⟨rfl, rfl⟩)
      | (go_at_call 22; refine hmo.mono ?_; clear hmo; rintro e w2 ⟨⟨v, rfl⟩, hc2⟩; obtain ⟨V, pb, db, hb2, hu2, hp2⟩ := hun w2 hc2; clear hun; have c7 : w2.cell? ⟨kb, 7, none⟩ = some (.pointer (some ⟨db, 0, none⟩)) := cell_of_row w2 kb 7 _ _ _ hb2; have hu20 := hu2)
      | (go_at_call 23; refine hu20.mono ?_; clear hu20 hu2; rintro e w3 ⟨rfl, hb3⟩)
      | fail)
    have hkl : kb < w2.heap.size := block_lt hb2
    have hb3k : w3.heap[kb]? = _ := (hb3.block kb hkl).trans hb2
    have d2 : w3.cell? ⟨kb, 2, none⟩ = some (.int .i64 a) := cell_of_row w3 kb 2 _ _ _ hb3k
    have d3 : w3.cell? ⟨kb, 3, none⟩ = some (.int .i64 r) := cell_of_row w3 kb 3 _ _ _ hb3k
    have d4 : w3.cell? ⟨kb, 4, none⟩ = some (.int .i64 T) := cell_of_row w3 kb 4 _ _ _ hb3k
    have d7 : w3.cell? ⟨kb, 7, none⟩ = some (.pointer (some ⟨db, 0, none⟩)) := cell_of_row w3 kb 7 _ _ _ hb3k
    have hput := fun m => hp2 (w3.drewN m) (max d T + r) (belowN hb3 m)
    have HC : Hid _ := hc2
    have HB3 : Hid _ := hb3
    clear hp2 hc2 hb2 c7 hb3k hb3
    go_quiet (fail)
    generalize nq = n1
    go_wp2
    go_ret2
    have hfin := (HC.out.later HB3.out).later (belowN (Below.refl _ _) n1)
    rw [← Hna.out, ← Hnr.out] at hfin
    exact ⟨rfl, hfin⟩
  · simp only [if_neg hw]
    have k5 := Se.wrap_in (max d T + r) (by omega) (by omega)
    go_enter Tryz.func10, Tryz.ntmps10
    go_upto_region 5 with (first
      | (go_at_call 20; refine hiu.mono ?_; clear hiu; rintro e w1 ⟨rfl, rfl⟩)
      | (go_at_call 21; refine hit.mono ?_; clear hit; rintro e w1 ⟨rfl, rfl⟩)
      | (go_at_call 22; refine hmo.mono ?_; clear hmo; rintro e w2 ⟨⟨v, rfl⟩, hc2⟩; obtain ⟨V, pb, db, hb2, hu2, hp2⟩ := hun w2 hc2; clear hun; have c7 : w2.cell? ⟨kb, 7, none⟩ = some (.pointer (some ⟨db, 0, none⟩)) := cell_of_row w2 kb 7 _ _ _ hb2; have hu20 := hu2)
      | (go_at_call 23; refine hu20.mono ?_; clear hu20 hu2; rintro e w3 ⟨rfl, hb3⟩)
      | fail)
    have hkl : kb < w2.heap.size := block_lt hb2
    have hb3k : w3.heap[kb]? = _ := (hb3.block kb hkl).trans hb2
    have d2 : w3.cell? ⟨kb, 2, none⟩ = some (.int .i64 a) := cell_of_row w3 kb 2 _ _ _ hb3k
    have d3 : w3.cell? ⟨kb, 3, none⟩ = some (.int .i64 r) := cell_of_row w3 kb 3 _ _ _ hb3k
    have d4 : w3.cell? ⟨kb, 4, none⟩ = some (.int .i64 T) := cell_of_row w3 kb 4 _ _ _ hb3k
    have d7 : w3.cell? ⟨kb, 7, none⟩ = some (.pointer (some ⟨db, 0, none⟩)) := cell_of_row w3 kb 7 _ _ _ hb3k
    have hput := fun m => hp2 (w3.drewN m) (max d T + r) (belowN hb3 m)
    have HC : Hid _ := hc2
    have HB3 : Hid _ := hb3
    clear hp2 hc2 hb2 c7 hb3k hb3
    go_quiet (fail)
    generalize nq = n1
    go_wp2
    (refine Go.Lq.wp_region_lastN (fun w' => ∃ k, w' = _root_.Go.World.drewN _ k) 16 (by kernel_rfl) (by kernel_rfl) ⟨1, rfl⟩ ?_; dsimp only [List.dropLast]; (repeat (quiet_step (fail))); refine wpQuiet_nil ?_; intro _ hw'; obtain ⟨nq, hw''⟩ := hw'; subst hw''; refine Go.Lq.wpOp_last rfl rfl ?_; unfold Oper.wp; go_simp)
    refine (hput (n1 + nq)).mono ?_
    rintro e w4 ⟨⟨v4, rfl⟩, hc4⟩
    go_wp2
    go_ret2
    rw [← Hna.out, ← Hnr.out] at hc4
    exact ⟨rfl, hc4⟩
end Go.Proofs
