/-
  Laid together by packg.py of Jzf TnO.
-/
import Derived.Test.YtcakkkafanpjaaaGreatDoorQaI
import Derived.Test.YtcakkkafanpjaaaGreatDoorQaX
import Derived.BigQuiet
import Derived.Deep.DeepCutAuto
namespace Go.Proofs
open Go.RowKit Go.Jv
set_option maxHeartbeats 2000000 in
/-- 'fault' of none. -/
theorem Tryz.lawFault_nil (w : World) : Calls Tryz.prog 22 #[.nilIface] w fun e w' => e = .returned (.tuple #[.int .i64 0, .int .i64 0, .bool true]) ∧ w' = w := by
  go_enter Tryz.func22, Tryz.ntmps22
  go_wp2
  go_ret3
  exact ⟨rfl, rfl⟩
theorem Tryz.assertFault2 (v : Value) (w : World) : (Instr.typeAssert (.iface 88 v) 51 88 true).run Tryz.prog w = .ok (.tuple #[v, .bool true]) w := by kernel_rfl
set_option maxRecDepth 100000 in
set_option maxHeartbeats 2000000 in
/-- 'fault' of one. -/
theorem Tryz.lawFault_some (w : World) (y p e : Nat) (h0 : w.cell? ⟨y, 0, none⟩ = some (.int .i64 p)) (h1 : w.cell? ⟨y, 1, none⟩ = some (.int .i64 e)) (he : e ≠ 0) :
    Calls Tryz.prog 22 #[.iface 88 (.pointer (some ⟨y, 0, none⟩))] w fun en w' => en = .returned (.tuple #[.int .i64 p, .int .i64 e, .bool true]) ∧ ∃ n, w' = w.drewN n := by
  have he' : ¬ (e : Int) = 0 := by omega
  have hta := Tryz.assertFault2
  go_enter Tryz.func22, Tryz.ntmps22
  go_wp2
  go_region
  go_wp2
  go_ret3
  exact ⟨by simp [he], 1, rfl⟩
end Go.Proofs
namespace Go.Proofs
open Go.RowKit Go.Jv
/-- What 'read' gives: nothing twice, or the value twice. -/
def Tryz.ReadOk (t : ByteArray) (w : World) (en : Ending) (w' : World) : Prop :=
  Below w.heap.size w w' ∧
  ((∃ p e, parse t = .bad p e ∧ en = .returned (.tuple #[.pointer none, .pointer none, .bool true])) ∨
   (∃ v x y, parse t = .ok v ∧ en = .returned (.tuple #[.pointer (some ⟨x, 0, none⟩), .pointer (some ⟨y, 0, none⟩), .bool true]) ∧ Tryz.Tr w' (fun g => w.heap.size ≤ g) v x ∧ Tryz.Td w' (fun g => w.heap.size ≤ g) v y))
/-- The byte at a place. -/
def Jv.byAt (t : ByteArray) (j : Nat) : Nat := (t.data.toList.getD j 0).toNat
/-- What is handed to Parse. -/
def Jv.hand : Option Addr → Nat → Nat → Nat → Value
  | none, _, _, _ => .slice none 0 0
  | some _, g, n, N => .slice (some ⟨g, 0, none⟩) n N
theorem Jv.hand_none (g n N : Nat) : Jv.hand none g n N = .slice none 0 0 := rfl
theorem Jv.hand_some (a : Addr) (g n N : Nat) : Jv.hand (some a) g n N = .slice (some ⟨g, 0, none⟩) n N := rfl
/-- The laws' own bytes as they are laid, up to a place. -/
structure Jv.Ln (w0 w : World) (t : ByteArray) (N i : Nat) : Prop where
  ex : ∃ f, Jv.Rb w w0.heap.size N f ∧ (∀ j, j < t.size → f j = Jv.byAt t j) ∧ ∀ j, t.size ≤ j → j < i → f j = 77
  be : Below w0.heap.size w0 w
/-- .. and as they are written over, from a place on as they were. -/
structure Jv.Lo (w0 w : World) (t : ByteArray) (g N i : Nat) : Prop where
  ex : ∃ f, Jv.Rb w g N f ∧ (∀ j, j < t.size → i ≤ j → f j = Jv.byAt t j) ∧ ∀ j, t.size ≤ j → i ≤ j → j < N → f j = 77
  wk : Wk g w0 w
theorem Jv.Ln.step {w0 w : World} {t : ByteArray} {N i : Nat} (h : Jv.Ln w0 w t N i) (hi : i < N) (ht : t.size ≤ i) : Jv.Ln w0 (w.setCell ⟨w0.heap.size, i, none⟩ (.int .u8 77)) t N (i + 1) := by
  obtain ⟨f, h1, h2, h3⟩ := h.ex
  refine ⟨⟨_, h1.set hi 77, fun j hj => ?_, fun j h4 h5 => ?_⟩, h.be.setCell (p := ⟨w0.heap.size, i, none⟩) (Nat.le_refl _) _⟩
  · have : ¬ j = i := by omega
    simp only [this, if_false]
    exact h2 j hj
  · by_cases e : j = i
    · simp only [e, if_true]
    · simp only [e, if_false]
      exact h3 j h4 (by omega)
theorem Jv.Lo.step {w0 w : World} {t : ByteArray} {g N i : Nat} (h : Jv.Lo w0 w t g N i) (hi : i < N) : Jv.Lo w0 (w.setCell ⟨g, i, none⟩ (.int .u8 120)) t g N (i + 1) := by
  obtain ⟨f, h1, h2, h3⟩ := h.ex
  refine ⟨⟨_, h1.set hi 120, fun j hj h4 => ?_, fun j h4 h5 h6 => ?_⟩, h.wk.setCell i none _⟩
  · have : ¬ j = i := by omega
    simp only [this, if_false]
    exact h2 j hj (by omega)
  · have : ¬ j = i := by omega
    simp only [this, if_false]
    exact h3 j h4 (by omega) h6
theorem Tryz.parse_hand {w0 W : World} {ad : Option Addr} {cap N : Nat} {t : ByteArray} (hB : Jv.By w0 (.slice ad t.size cap) t) (hL : Jv.Ln w0 W t N N) (hN : t.size ≤ N) (hs : t.size ≤ 140737488355328) (hT : Tryz.Tb W) :
    Calls Tryz.prog 20 #[Jv.hand ad w0.heap.size t.size N] W fun en w' => Tryz.ParseOk t W en w' := by
  obtain ⟨ad', cap', e, h1⟩ := hB.ex
  injection e with e1 _ _
  subst e1
  cases ad with
  | none =>
    rcases h1 with rfl | ⟨g, o, e, _⟩
    · exact Tryz.parse_any ⟨#[]⟩ none 0 W hs hT fun W' _ => run_convert_bytes_zero (P := Tryz.prog) _ 22 5 Tryz.underlying22 Tryz.underlying5 none 0 9 Tryz.underlying9
    · cases e
  | some a =>
    obtain ⟨f, h2, h3, -⟩ := hL.ex
    exact Tryz.parse_any t (some ⟨w0.heap.size, 0, none⟩) N W hs hT fun W' hW' => Tryz.conv_rb (h2.below hW' h2.lt) hN h3 N
theorem Jv.By.at {w : World} {ad : Option Addr} {cap : Nat} {t : ByteArray} (h : Jv.By w (.slice ad t.size cap) t) {i : Nat} (hi : i < t.size) : ∃ g o, ad = some ⟨g, o, none⟩ ∧ g < w.heap.size ∧ w.cell? ⟨g, o + i, none⟩ = some (.int .u8 (Jv.byAt t i : Nat)) := by
  obtain ⟨ad', cap', e, h1⟩ := h.ex
  injection e with e1 _ _
  subst e1
  rcases h1 with rfl | ⟨g, o, e, hg, h2⟩
  · exact absurd hi (Nat.not_lt_zero _)
  · exact ⟨g, o, e, hg, h2 i hi⟩
theorem Jv.Rb.drewN {w : World} {g N : Nat} {f : Nat → Nat} (h : Jv.Rb w g N f) (n : Nat) : Jv.Rb (w.drewN n) g N f := ⟨h.lt, h.cell, h.fz⟩
theorem Jv.Lo.drewN {w0 w : World} {t : ByteArray} {g N i : Nat} (h : Jv.Lo w0 w t g N i) (n : Nat) : Jv.Lo w0 (w.drewN n) t g N i := by
  obtain ⟨f, h1, h2, h3⟩ := h.ex
  exact ⟨⟨f, h1.drewN n, h2, h3⟩, h.wk.drewN n⟩
/-- What Parse gives, both ways in one. -/
def Tryz.PvOk (t : ByteArray) (w w' : World) (pv : Option Addr) (ev : Value) : Prop :=
  (∃ v x, parse t = .ok v ∧ pv = some ⟨x, 0, none⟩ ∧ ev = .nilIface ∧ Tryz.Tr w' (fun g => w.heap.size ≤ g) v x) ∨
  (∃ p e y, parse t = .bad p e ∧ pv = none ∧ ev = .iface 88 (.pointer (some ⟨y, 0, none⟩)) ∧ w'.cell? ⟨y, 0, none⟩ = some (.int .i64 (p : Nat)) ∧ w'.cell? ⟨y, 1, none⟩ = some (.int .i64 (e : Nat)))
theorem Tryz.ParseOk.parts {t : ByteArray} {w w' : World} {en : Ending} (h : Tryz.ParseOk t w en w') : ∃ pv ev, en = .returned (.tuple #[.pointer pv, ev]) ∧ Tryz.PvOk t w w' pv ev ∧ Below w.heap.size w w' := by
  rcases h with ⟨v, x, h1, h2, h3, h4⟩ | ⟨p, e, y, h1, h2, h3, h4, h5⟩
  · exact ⟨_, _, h2, .inl ⟨v, x, h1, rfl, rfl, h3⟩, h4⟩
  · exact ⟨_, _, h2, .inr ⟨p, e, y, h1, rfl, rfl, h3, h4⟩, h5⟩
theorem Tryz.DParse.ok {t : ByteArray} {w w' : World} {en : Ending} {v : V} (hv : parse t = .ok v) (h : Tryz.DParse t w en w') :
    ∃ x, en = .returned (.tuple #[.pointer (some ⟨x, 0, none⟩), .int .i64 0, .int .i64 0]) ∧ Tryz.Td w' (fun g => w.heap.size ≤ g) v x ∧ Below w.heap.size w w' := by
  obtain ⟨hb, h⟩ := h
  rcases h with ⟨v', x, h1, h2, h3⟩ | ⟨p, e, h1, _⟩
  · rw [hv] at h1; cases h1; exact ⟨x, h2, h3, hb⟩
  · rw [hv] at h1; cases h1
theorem Tryz.DParse.bad {t : ByteArray} {w w' : World} {en : Ending} {p e : Nat} (hv : parse t = .bad p e) (h : Tryz.DParse t w en w') :
    e ≠ 0 ∧ en = .returned (.tuple #[.pointer none, .int .i64 p, .int .i64 e]) ∧ Below w.heap.size w w' := by
  obtain ⟨hb, h⟩ := h
  rcases h with ⟨v', x, h1, _⟩ | ⟨p, e, h1, h2, h3⟩
  · rw [hv] at h1; cases h1
  · rw [hv] at h1; cases h1; exact ⟨h2, h3, hb⟩
set_option maxRecDepth 100000 in
set_option maxHeartbeats 8000000 in
theorem Tryz.read_any (bv : Value) (t : ByteArray) (w : World) (hB : Jv.By w bv t) (hs : t.size ≤ 140737488351232) (hT : Tryz.Tb w) :
    Calls Tryz.prog 9 #[bv] w fun en w' => Tryz.ReadOk t w en w' := by
  obtain ⟨ad, cap, rfl, -⟩ := hB.ex
  have HB : Hid (Jv.By w (.slice ad t.size cap) t) := hB
  have HT : Hid (Tryz.Tb w) := hT
  have hq : ∀ (w : World) (a : Option Addr) (n c : Nat), (binOp .eql 22 (.slice a n c) (.slice none 0 0)).run Tryz.prog w = .ok (.bool a.isNone) w := fun w a n c => Lib.run_eql_slice_nil w 22 5 a n c 0 0 Tryz.underlying22
  clear hB hT
  go_enter Tryz.func9, Tryz.ntmps9
  obtain ⟨N, hN⟩ : ∃ N : Nat, N = t.size + 8 := ⟨_, rfl⟩
  have e1 : IntKind.i64.wrap ((t.size : Int) + 8) = (N : Int) := by rw [IntKind.wrap_i64]; omega
  have HN : Hid (N = t.size + 8) := hN
  have hN2 : N ≤ 140737488355328 := by omega
  have hN3 : t.size ≤ N := by omega
  have hN0 : 0 < N := by omega
  clear hN
  go_wp2_with (first | (refine Tryz.makeRb rfl _ _ rfl _ N rfl rfl rfl hN2 ?_ hN0; intro w1 ho1 hb1; obtain ⟨w2, hcp, hr2, hb2⟩ := Tryz.copyRb ho1 (HB.out.up hb1) hN3 w.heap.size w hb1 (Nat.le_refl _); have HR2 : Hid _ := hr2; have HB2 : Hid (Below w.heap.size w w2) := hb2; clear ho1 hb1 hr2 hb2) | fail)
  clear hcp
  go_loopw [7] (fun iv wr => ∃ i : Nat, iv = .int .i64 i ∧ t.size ≤ i ∧ i ≤ N ∧ Jv.Ln w wr t N i) (fun iv _ => N - (intOf iv).toNat)
  case atStart => exact ⟨t.size, rfl, Nat.le_refl _, hN3, ⟨⟨_, HR2.out, fun j hj => by simp only [hj, if_true]; rfl, fun j h1 h2 => by omega⟩, HB2.out⟩⟩
  case round =>
    clear HR2 HB2
    obtain ⟨i, rfl, h1, h2, hL⟩ := hrel
    have HL : Hid (Jv.Ln w wr t N i) := hL
    clear hL
    by_cases hlt : i < N
    · have q : (i : Int) < (N : Int) := by omega
      obtain ⟨v0, c0⟩ : ∃ v, wr.cell? ⟨w.heap.size, i, none⟩ = some v := by obtain ⟨f, g1, -⟩ := HL.out.ex; exact ⟨_, g1.cell i hlt⟩
      have f0 : wr.frozen? ⟨w.heap.size, i, none⟩ = false := by obtain ⟨f, g1, -⟩ := HL.out.ex; exact g1.fz i hlt
      go_wp2
      go_roundw
      case rel => exact ⟨i + 1, by simp, by omega, by omega, HL.out.step hlt h1⟩
      case measure => simp [intOf]; omega
    · have q : ¬ (i : Int) < (N : Int) := by omega
      have HL2 : Hid (Jv.Ln w wr t N N) := by
        have e : i = N := by omega
        subst e; exact HL.out
      have q3 : (t.size : Int) ≤ (N : Int) := by omega
      obtain ⟨HV, hHV⟩ : ∃ HV, HV = Jv.hand ad w.heap.size t.size N := ⟨_, rfl⟩
      have hT1 : Tryz.Tb wr := HT.out.below HL2.out.be HT.out.size
      have hpa := Tryz.parse_hand HB.out HL2.out hN3 (by omega) hT1
      rw [← hHV] at hpa
      have HHV : Hid (HV = Jv.hand ad w.heap.size t.size N) := hHV
      clear HL hlt h1 h2 hT1 hHV
      go_upto_if 41 with (fail)
      go_cut [8] (fun v wx => v = HV ∧ wr = wx)
      case first =>
        clear hpa
        have HHW := HHV.out
        cases ad with
        | none =>
          rw [Jv.hand_none] at HHW
          subst HHW
          go_wp2
          go_meet
          case rel => exact ⟨rfl, rfl⟩
        | some a =>
          rw [Jv.hand_some] at HHW
          subst HHW
          go_wp2
          go_meet
          case rel => exact ⟨rfl, rfl⟩
      case rest =>
        obtain ⟨hv1, hv2⟩ := hcut
        subst hv1
        subst hv2
        obtain ⟨wa, hwa⟩ : ∃ wa, wa = wr := ⟨_, rfl⟩
        subst hwa
        have HGL : Hid (w.heap.size < wa.heap.size) := by
          obtain ⟨f, k1, -⟩ := HL2.out.ex
          exact k1.lt
        go_upto_region 12 with (first
          | (go_at_call 20; refine hpa.mono ?_; clear hpa; rintro e2 w5 hPO
             obtain ⟨pv, ev, rfl, hpv, hb5⟩ := Tryz.ParseOk.parts hPO
             have HPV : Hid (Tryz.PvOk t wa w5 pv ev) := hpv
             have HB5 : Hid (Below wa.heap.size wa w5) := hb5
             clear hPO hpv hb5)
          | fail)
        have HLo : Hid (Jv.Lo w5 w5 t w.heap.size N 0) := by
          obtain ⟨f, k1, k2, k3⟩ := HL2.out.ex
          exact ⟨⟨f, k1.below HB5.out k1.lt, fun j hj _ => k2 j hj, fun j hj _ h => k3 j hj h⟩, Wk.refl _ _⟩
        have HC0 : Hid (∃ c : Int, w5.cell? ⟨w.heap.size, 0, none⟩ = some (.int .u8 c)) := by
          obtain ⟨f, k1, -⟩ := HLo.out.ex
          exact ⟨_, k1.cell 0 hN0⟩
        have HBw : Hid (Below w.heap.size w w5) := HL2.out.be.trans (HB5.out.mono HL2.out.be.size)
        clear HHV HL2
        go_wp2
        go_loopw [11] (fun iv wx => ∃ i : Nat, iv = .int .i64 i ∧ i ≤ N ∧ Jv.Lo w5 wx t w.heap.size N i) (fun iv _ => N - (intOf iv).toNat)
        case atStart => exact ⟨0, rfl, Nat.zero_le _, HLo.out⟩
        case round =>
          clear HLo q
          obtain ⟨i, rfl, h2, hLo⟩ := hrel
          have HLo : Hid (Jv.Lo w5 wr t w.heap.size N i) := hLo
          clear hLo
          by_cases hlt : i < N
          · have q : (i : Int) < (N : Int) := by omega
            have f0 : wr.frozen? ⟨w.heap.size, i, none⟩ = false := by obtain ⟨f, k1, -⟩ := HLo.out.ex; exact k1.fz i hlt
            by_cases hin : i < t.size
            · obtain ⟨gb, o, rfl, hgb, hbc⟩ := HB.out.at hin
              have cb : wr.cell? ⟨gb, o + i, none⟩ = some (.int .u8 (Jv.byAt t i : Nat)) := by
                have k1 := (HBw.out.cell (p := ⟨gb, o + i, none⟩) hgb).trans hbc
                have hne : gb ≠ w.heap.size := by omega
                exact (HLo.out.wk.cell (p := ⟨gb, o + i, none⟩) (Nat.lt_of_lt_of_le hgb HBw.out.size) hne).trans k1
              have co : wr.cell? ⟨w.heap.size, i, none⟩ = some (.int .u8 (Jv.byAt t i : Nat)) := by obtain ⟨f, k1, k2, -⟩ := HLo.out.ex; rw [k1.cell i hlt, k2 i hin (Nat.le_refl _)]
              obtain ⟨c, hc⟩ : ∃ c, c = Jv.byAt t i := ⟨_, rfl⟩
              rw [← hc] at cb co
              have q1 : (i : Int) < (t.size : Int) := by omega
              have q2 : decide ((i : Int) < (t.size : Int)) = true := decide_eq_true q1
              have q3 : decide ((t.size : Int) ≤ (i : Int)) = false := decide_eq_false (by omega)
              have q4 : decide (t.size ≤ i) = false := decide_eq_false (by omega)
              have q5 : decide (i < t.size) = true := decide_eq_true hin
              clear hbc hc hgb
              go_upto_region 15 with (fail)
              go_quiet (fail)
              go_wp2
              go_roundw
              case rel => exact ⟨i + 1, by simp, by omega, (HLo.out.drewN _).step hlt⟩
              case measure => simp [intOf]; omega
            · have co : wr.cell? ⟨w.heap.size, i, none⟩ = some (.int .u8 77) := by obtain ⟨f, k1, -, k3⟩ := HLo.out.ex; rw [k1.cell i hlt, k3 i (by omega) (Nat.le_refl _) hlt]; rfl
              have q1 : ¬ (i : Int) < (t.size : Int) := by omega
              have q2 : decide ((i : Int) < (t.size : Int)) = false := decide_eq_false q1
              have q3 : decide ((t.size : Int) ≤ (i : Int)) = true := decide_eq_true (by omega)
              have q4 : decide (t.size ≤ i) = true := decide_eq_true (by omega)
              have q5 : decide (i < t.size) = false := decide_eq_false hin
              clear hin
              go_upto_region 15 with (fail)
              go_quiet (fail)
              go_wp2
              go_roundw
              case rel => exact ⟨i + 1, by simp, by omega, (HLo.out.drewN _).step hlt⟩
              case measure => simp [intOf]; omega
          · have q : ¬ (i : Int) < (N : Int) := by omega
            have hBr : Below w.heap.size w wr := Wk.toBelow HBw.out HLo.out.wk (Nat.le_refl _)
            have HBr : Hid (Below w.heap.size w wr) := hBr
            have hTb : Tryz.Tb wr := HT.out.below hBr HT.out.size
            have HTb : Hid (Tryz.Tb wr) := hTb
            have hdp := Tryz.dsParse t ad cap wr (by omega) (fun W hW => Tryz.conv_by ((HB.out.up hBr).up hW))
            have hmw : w.heap.size ≤ wa.heap.size := by have := HGL.out; omega
            rcases HPV.out with ⟨v, x, hp, rfl, rfl, hTr⟩ | ⟨p, e, y, hp, rfl, rfl, h0, h1⟩
            · have HTr : Hid (Tryz.Tr wr (fun m => wa.heap.size ≤ m) v x) := Tryz.Tr_keep (fun m hm hl => HLo.out.wk.block m hl (by have := HGL.out; omega)) HLo.out.wk.size _ _ hTr
              obtain ⟨hgd, hlen, h4096⟩ := parse_gd hp
              have hpr := fun (W : World) (x : Nat) hx hW => Tryz.print_any v W x hx hW (by omega)
              have hrpr := fun (W : World) (x : Nat) hx => Tryz.rprint_any v W x hx (by omega)
              generalize (⟨(pr v).toArray⟩ : ByteArray) = P at hpr hrpr
              have hlk := Tryz.lk_all 10 v hgd
              have hdp2 := hdp.mono (fun _ _ h => Tryz.DParse.ok hp h)
              have HP : Hid (parse t = .ok v) := hp
              have HMW : Hid (w.heap.size ≤ wa.heap.size) := hmw
              clear hdp hTr hgd hlen h4096 hp hmw hBr hTb HPV
              go_wp2_with (first
                | (go_at_call 21; refine hdp2.mono ?_; clear hdp2; rintro e6 w6 ⟨y, rfl, hTd, hb6⟩
                   have hx6 := Tryz.Tr_keep (w' := w6) (fun m hm hl => hb6.block m hl) hb6.size _ _ HTr.out
                   have hlk6 := hlk w6 _ _ x y hx6 hTd
                   have HTR6 : Hid (Tryz.Tr w6 (fun m => wa.heap.size ≤ m) v x) := hx6
                   have HTD6 : Hid (Tryz.Td w6 (fun m => wr.heap.size ≤ m) v y) := hTd
                   have HB6 : Hid (Below wr.heap.size wr w6) := hb6
                   clear hx6 hTd hb6 hlk)
                | (go_at_call 22; refine (Tryz.lawFault_nil _).mono ?_; rintro e7 w7 ⟨rfl, h7⟩; have h7 := h7.symm; subst h7)
                | (go_at_call 16; refine hlk6.mono ?_; clear hlk6; rintro e8 w8 ⟨rfl, hb8⟩
                   have hb68 : Below wr.heap.size wr w8 := HB6.out.trans (hb8.mono HB6.out.size)
                   have hx8 := Tryz.Tr_keep (w' := w8) (fun m hm hl => hb8.block m hl) hb8.size _ _ HTR6.out
                   have hy8 := Tryz.Td_keep (w' := w8) (fun m hm hl => hb8.block m hl) hb8.size _ _ HTD6.out
                   have hp8 := hpr w8 x (Tryz.Tr_mono (fun _ _ h => h) _ _ hx8) (HTb.out.below hb68 HTb.out.size)
                   have HB8 : Hid (Below wr.heap.size wr w8) := hb68
                   have HX8 : Hid (Tryz.Tr w8 (fun m => wa.heap.size ≤ m) v x) := hx8
                   have HY8 : Hid (Tryz.Td w8 (fun m => wr.heap.size ≤ m) v y) := hy8
                   clear hb68 hx8 hy8 hb8 hpr)
                | (go_at_call 11; refine hp8.mono ?_; clear hp8; rintro e9 w9 ⟨rfl, hb9⟩
                   have hy9 := Tryz.Td_keep (w' := w9) (fun m hm hl => hb9.block m hl) hb9.size _ _ HY8.out
                   have hr9 := hrpr w9 y (Tryz.Td_mono (fun _ _ h => h) _ _ hy9)
                   have HB9 : Hid (Below w8.heap.size w8 w9) := hb9
                   clear hb9 hy9 hrpr)
                | (go_at_call 23; refine hr9.mono ?_; clear hr9; rintro e10 w10 ⟨rfl, hb10⟩
                   have HB10 : Hid (Below w9.heap.size w9 w10) := hb10
                   clear hb10)
                | fail)
              go_ret3
              have hb810 : Below w8.heap.size w8 w10 := HB9.out.trans (HB10.out.mono HB9.out.size)
              exact ⟨HBr.out.trans ((HB8.out.trans (hb810.mono HB8.out.size)).mono HBr.out.size), .inr ⟨v, x, y, HP.out, rfl, Tryz.Tr_mono (fun m hm _ => Nat.le_trans HMW.out hm) _ _ (Tryz.Tr_keep (fun m _ hl => hb810.block m hl) hb810.size _ _ HX8.out), Tryz.Td_mono (fun m hm _ => Nat.le_trans HBr.out.size hm) _ _ (Tryz.Td_keep (fun m _ hl => hb810.block m hl) hb810.size _ _ HY8.out)⟩⟩
            · have hdp2 := hdp.mono (fun _ _ h => Tryz.DParse.bad hp h)
              have HP : Hid (parse t = .bad p e) := hp
              have hyl : y < w5.heap.size := World.block_lt_of_cell? _ _ h0
              have hyg : y ≠ w.heap.size := by
                intro e0
                obtain ⟨c, hc⟩ := HC0.out
                rw [← e0, h0] at hc
                cases hc
              have d0 := (HLo.out.wk.cell (p := ⟨y, 0, none⟩) hyl hyg).trans h0
              have d1 := (HLo.out.wk.cell (p := ⟨y, 1, none⟩) hyl hyg).trans h1
              have hyr : y < wr.heap.size := Nat.lt_of_lt_of_le hyl HLo.out.wk.size
              clear hdp h0 h1 hyl hyg hp hmw hBr hTb HPV
              go_wp2_with (first
                | (go_at_call 21; refine hdp2.mono ?_; clear hdp2; rintro e6 w6 ⟨he, rfl, hb6⟩
                   have he2 : ((e : Int) != 0) = true := by simp only [bne_iff_ne, ne_eq]; omega
                   have hlf := Tryz.lawFault_some w6 y p e ((hb6.cell (p := ⟨y, 0, none⟩) hyr).trans d0) ((hb6.cell (p := ⟨y, 1, none⟩) hyr).trans d1) he
                   have HB6 : Hid (Below wr.heap.size wr w6) := hb6
                   clear hb6 he)
                | (go_at_call 22; refine hlf.mono ?_; clear hlf; rintro e7 w7 ⟨rfl, n7, rfl⟩)
                | fail)
              go_ret3
              exact ⟨HBr.out.trans (((below_drewN HB6.out _)).mono HBr.out.size), .inl ⟨p, e, HP.out, rfl⟩⟩
end Go.Proofs
