/-
  CountsCaps: its walk.
-/
import Derived.Test.YtkfnjmkajhfhlaaCj
namespace Go.Ct
theorem many_range {p : Int → Prop} (c : Nat) (f : Nat → Int) (hf : ∀ i j, f i = f j → i = j) (h : ∀ x, p x ↔ ∃ j, j < c ∧ x = f j) : Go.Proofs.Ct.Many p c := by
  refine ⟨(List.range c).map f, ?_, fun x => ?_, by simp⟩
  · rw [List.nodup_iff_pairwise_ne, List.pairwise_map]
    exact List.nodup_range.imp fun h e => h (hf _ _ e)
  · rw [List.mem_map, h x]
    constructor
    · rintro ⟨j, hj, rfl⟩; exact ⟨j, List.mem_range.1 hj, rfl⟩
    · rintro ⟨j, hj, rfl⟩; exact ⟨j, List.mem_range.2 hj, rfl⟩
/-- The stream of the first i events, of one room. -/
def evs (r : ByteArray) (i : Nat) : List Ev := (List.range i).map fun j => (r, evt j, false)
theorem evs_succ (r : ByteArray) (i : Nat) : evs r (i + 1) = evs r i ++ [(r, evt i, false)] := by simp [evs, List.range_succ]
theorem evs_len (r : ByteArray) (i : Nat) : (evs r i).length = i := by simp [evs]
theorem evs_place (r : ByteArray) (i k : Nat) : place (evs r i) (evt k) = if k < i then some (k + 1) else none := by
  induction i with
  | zero => simp [evs, place]
  | succ i ih =>
    rw [evs_succ, place_app, ih, evs_len]
    by_cases h : k < i
    · simp [h, show k < i + 1 by omega]
    · rw [if_neg h]
      by_cases h1 : k = i
      · subst h1; simp
      · have : ¬ evt i = evt k := fun e => h1 (evt_inj e).symm
        simp [this]
        omega
theorem evs_get (r : ByteArray) {i k : Nat} (h : k < i) : (evs r i)[k]? = some (r, evt k, false) := by simp [evs, h]
theorem evs_fnd (s : St) (r : ByteArray) {i k : Nat} (hs : s.ev = evs r i) (h : k < i) : fnd s r (evt k) = k + 1 := by
  unfold fnd
  rw [hs, evs_place, if_pos h]
  simp [evs_get r h]
end Go.Ct
namespace Go.Proofs
open Go.RowKit Go.Wi Go.Ct
theorem Ct.fnd_newC (s : St) (r e r' : ByteArray) (hp : place s.ev e = none) : fnd (s.add r e) r' e = if r = r' then s.ev.length + 1 else 0 := by
  have h1 : place (s.add r e).ev e = some (s.ev.length + 1) := by simp [St.add, place_app, hp]
  unfold fnd
  rw [h1]
  simp [St.add]
/-- A book behind i rounds. -/
structure Ct.Cap (i : Nat) (s : St) : Prop where
  ev : s.ev = evs Ct.tR i
  mr : s.mr Ct.tR Ct.tA = 0
  nt : ∀ x, s.nt Ct.tR Ct.tA x = if 1 ≤ x ∧ x ≤ i then some (decide ((x - 1) % 2 = 0)) else none
theorem Ct.Cap.next {i : Nat} {s : St} (h : Ct.Cap i s) {hl : Bool} (hh : hl = decide ((i : Int) % 2 = 0)) : Ct.Cap (i + 1) (Ct.noted (s.add Ct.tR (evt i)) Ct.tA Ct.tR (i + 1) false hl) := by
  have hm : (s.add Ct.tR (evt i)).mr Ct.tR Ct.tA = 0 := h.mr
  have e : Ct.noted (s.add Ct.tR (evt i)) Ct.tA Ct.tR (i + 1) false hl = (s.add Ct.tR (evt i)).page Ct.tR Ct.tA 0 (upd (s.nt Ct.tR Ct.tA) ((i + 1 : Nat) : Int) (some hl)) := by
    unfold Ct.noted
    rw [hm, if_pos]
    · rfl
    · simp
  rw [e]
  refine ⟨?_, by simp [St.page], fun x => ?_⟩
  · show s.ev ++ [(Ct.tR, evt i, false)] = _
    rw [h.ev, evs_succ]
  · simp only [St.page, and_self, if_true]
    by_cases hx : x = ((i + 1 : Nat) : Int)
    · subst hx
      rw [upd_same, if_pos (by omega), hh]
      congr 2
      simp
    · rw [upd_ne _ _ hx, h.nt x]
      by_cases h1 : 1 ≤ x ∧ x ≤ i
      · rw [if_pos h1, if_pos (by omega)]
      · rw [if_neg h1, if_neg (by omega)]
theorem Ct.Cap.all {n : Nat} {s : St} (h : Ct.Cap n s) : Ct.Many (fun x => (s.nt Ct.tR Ct.tA x).isSome) n ∧ Ct.Many (fun x => s.nt Ct.tR Ct.tA x = some true) ((n + 1) / 2) := by
  refine ⟨many_range n (fun j => (j : Int) + 1) (fun i j e => by omega) fun x => ?_, many_range _ (fun j => 2 * (j : Int) + 1) (fun i j e => by omega) fun x => ?_⟩
  · rw [h.nt x]
    by_cases h1 : 1 ≤ x ∧ x ≤ n
    · rw [if_pos h1]
      exact ⟨fun _ => ⟨(x - 1).toNat, by omega, by omega⟩, fun _ => rfl⟩
    · rw [if_neg h1]
      constructor
      · intro e; cases e
      · rintro ⟨j, h2, h3⟩; exact absurd ⟨by omega, by omega⟩ h1
  · rw [h.nt x]
    by_cases h1 : 1 ≤ x ∧ x ≤ n
    · rw [if_pos h1]
      constructor
      · intro e
        have h2 : (x - 1) % 2 = 0 := by simpa using e
        exact ⟨((x - 1) / 2).toNat, by omega, by omega⟩
      · rintro ⟨j, h2, h3⟩
        have : (x - 1) % 2 = 0 := by omega
        simp [this]
    · rw [if_neg h1]
      constructor
      · intro e; cases e
      · rintro ⟨j, h2, h3⟩; exact absurd ⟨by omega, by omega⟩ h1
theorem Ct.Cap.left {n k : Nat} {s : St} (h : Ct.Cap n s) (hk : k < n) : Ct.Many (fun x => ((rcpt s Ct.tA Ct.tR (k + 1)).nt Ct.tR Ct.tA x).isSome) (n - 1 - k) ∧ Ct.Many (fun x => (rcpt s Ct.tA Ct.tR (k + 1)).nt Ct.tR Ct.tA x = some true) ((n + 1) / 2 - (k + 2) / 2) := by
  have e : ∀ x, (rcpt s Ct.tA Ct.tR (k + 1)).nt Ct.tR Ct.tA x = if (k : Int) + 2 ≤ x ∧ x ≤ n then some (decide ((x - 1) % 2 = 0)) else none := fun x => by
    simp only [rcpt, St.page, and_self, if_true, h.nt x]
    by_cases h1 : (k : Int) + 2 ≤ x ∧ x ≤ n
    · rw [if_neg (by omega), if_pos (by omega), if_pos h1]
    · rw [if_neg h1]
      by_cases h2 : x ≤ ((k + 1 : Nat) : Int)
      · rw [if_pos h2]
      · rw [if_neg h2, if_neg (by omega)]
  refine ⟨many_range _ (fun j => (j : Int) + k + 2) (fun i j e => by omega) fun x => ?_, many_range _ (fun j => 2 * ((j + (k + 2) / 2 : Nat) : Int) + 1) (fun i j e => by omega) fun x => ?_⟩
  · rw [e x]
    by_cases h1 : (k : Int) + 2 ≤ x ∧ x ≤ n
    · rw [if_pos h1]
      exact ⟨fun _ => ⟨(x - k - 2).toNat, by omega, by omega⟩, fun _ => rfl⟩
    · rw [if_neg h1]
      constructor
      · intro e; cases e
      · rintro ⟨j, h2, h3⟩; exact absurd ⟨by omega, by omega⟩ h1
  · rw [e x]
    by_cases h1 : (k : Int) + 2 ≤ x ∧ x ≤ n
    · rw [if_pos h1]
      constructor
      · intro e
        have h2 : (x - 1) % 2 = 0 := by simpa using e
        exact ⟨((x - 1) / 2).toNat - (k + 2) / 2, by omega, by omega⟩
      · rintro ⟨j, h2, h3⟩
        have : (x - 1) % 2 = 0 := by omega
        simp [this]
    · rw [if_neg h1]
      constructor
      · intro e; cases e
      · rintro ⟨j, h2, h3⟩; exact absurd ⟨by omega, by omega⟩ h1
set_option maxHeartbeats 16000000 in
set_option maxRecDepth 20000 in
theorem Try.countsCapsWalk (many read : Int) (w : World) (hm : -9223372036854775808 ≤ many ∧ many ≤ 9223372036854775807) (hr : -9223372036854775808 ≤ read ∧ read ≤ 9223372036854775807) :
    Calls Try.prog 4 #[.int .i64 many, .int .i64 read] w fun z w' => z = .returned (.bool true) ∧ Below w.heap.size w w' := by
  have haw := Try.awake_any w
  have hp1 := fun W => Try.pick_any many 220 (by omega) (by omega) hm.1 hm.2 W
  have hpl := Ct.pickN_lt many (n := 220) (by omega)
  generalize Ct.pickN many 220 = p at *
  have hp2 := fun W => Try.pick_any read (90 + p) (by omega) (by omega) hr.1 hr.2 W
  have hkl := Ct.pickN_lt read (n := 90 + p) (by omega)
  generalize Ct.pickN read (90 + p) = k at *
  have hcp : ((90 + p : Nat) : Int) = 90 + (p : Int) := by omega
  generalize hnn : 90 + p = n at *
  have hn1 : 90 ≤ n := by omega
  have hn2 : n < 310 := by omega
  clear hm hr hpl
  go_enter Try.func4, Try.ntmps4
  go_wp2_with (first
    | (go_at_call 6; refine haw.mono ?_; clear haw; rintro z w1 ⟨rfl, hb1⟩; have hnew := Try.new_f w1; have HB1 : Hid _ := hb1; clear hb1)
    | (go_at_call 7; refine hnew.mono ?_; clear hnew; rintro z w2 ⟨b, rfl, hB2, hb2⟩; have HBF : Hid (Try.Bf w.heap.size w2 b St.new 0) := hB2.floor HB1.out.size; have HB2 : Hid (Below w.heap.size w w2) := HB1.out.trans (hb2.mono HB1.out.size); clear hB2 hb2)
    | (go_at_call 11; refine (hp1 _).mono ?_; clear hp1; rintro z w3 ⟨rfl, rfl⟩)
    | fail)
  rw [← hcp]
  clear hcp hnn
  go_loopw [8] (fun iv wr => ∃ (i : Nat) (s : St), iv = .int .i64 i ∧ i ≤ n ∧ Try.Bf w.heap.size wr b s (4 * i) ∧ Ct.Cap i s ∧ Below w.heap.size w wr) (fun iv _ => n - (intOf iv).toNat)
  case atStart => exact ⟨0, St.new, rfl, by omega, HBF.out, ⟨rfl, rfl, fun x => by simp only [St.new]; rw [if_neg (by omega)]⟩, HB2.out⟩
  case round =>
    obtain ⟨i, s, rfl, hin, hB, hC, hbel⟩ := hrel
    clear HBF HB2 HB1
    by_cases hi : i < n
    · have q1 : (i : Int) < (n : Int) := by omega
      have hsl : s.ev.length = i := by rw [hC.ev, evs_len]
      have hpn : place s.ev (evt i) = none := by rw [hC.ev, evs_place, if_neg (by omega)]
      have hes : (evt i).size ≤ maxLen := by have := evt_size i; unfold maxLen; omega
      have hev := Try.event_f hB (by unfold maxLen; omega) Ct.tR (evt i) hes hpn (by omega)
      rw [hsl] at hev
      have hfn : fnd (s.add Ct.tR (evt i)) Ct.tR (evt i) = i + 1 := by rw [Ct.fnd_newC s Ct.tR _ _ hpn, if_pos rfl, hsl]
      have hget : (s.add Ct.tR (evt i)).ev[i]? = some (Ct.tR, evt i, false) := by simp [St.add, hsl]
      have het := fun W => Try.evt_any i (by omega) W
      have HFN : Hid _ := hfn
      have HGET : Hid _ := hget
      have HES : Hid _ := hes
      have HC : Hid _ := hC
      have HBEL : Hid _ := hbel
      clear hB hC hbel hsl hpn hfn hget hes
      obtain ⟨hl, hhl, hq⟩ : ∃ hl : Bool, hl = decide ((i : Int) % 2 = 0) ∧ ((hl = true ∧ (i : Int) % 2 = 0) ∨ (hl = false ∧ (i : Int) % 2 = 1)) := by
        by_cases h : (i : Int) % 2 = 0
        · exact ⟨true, by simp [h], .inl ⟨rfl, h⟩⟩
        · exact ⟨false, by simp [h], .inr ⟨rfl, by omega⟩⟩
      have HHL : Hid _ := hhl
      clear hhl
      rcases hq with ⟨rfl, q2⟩ | ⟨rfl, q2⟩
      all_goals
        go_wp2_with (first
          | (go_at_call 12; refine (het _).mono ?_; rintro z w4 ⟨rfl, rfl⟩)
          | (go_at_call 8; refine hev.mono ?_; clear hev; rintro z w5 ⟨rfl, hB5, hb5⟩; have hno := fun hl => Try.note_f hB5 (by unfold maxLen; omega) Ct.tA Ct.tR (evt i) HES.out (Ct.small _ (by decide)) (Ct.small _ (by decide)) hl ⟨#[]⟩ false i HFN.out HGET.out; have HB5 : Hid _ := hb5; clear hB5 hb5)
          | (go_at_call 9; refine (hno _).mono ?_; clear hno; rintro z w6 ⟨rfl, hB6, hb6⟩; have HB6 : Hid _ := hb6; have HBF6 : Hid _ := hB6; clear hB6 hb6)
          | fail)
        go_roundw
        case rel => exact ⟨i + 1, _, by go_num, by omega, HBF6.out.mono (by omega), HC.out.next HHL.out, (HBEL.out.trans HB5.out).trans HB6.out⟩
        case measure => simp [intOf]; omega
    · obtain rfl : i = n := by omega
      obtain ⟨hm1, hm2⟩ := hC.all
      obtain ⟨hm3, hm4⟩ := hC.left hkl
      have hfk : fnd s Ct.tR (evt k) = k + 1 := evs_fnd s Ct.tR hC.ev hkl
      have hlt : s.mr Ct.tR Ct.tA < ((fnd s Ct.tR (evt k) : Nat) : Int) := by rw [hC.mr, hfk]; omega
      have hes : (evt k).size ≤ maxLen := by have := evt_size k; unfold maxLen; omega
      have hco := Try.counts_f hB (by omega) Ct.tA Ct.tR (Ct.small _ (by decide)) (Ct.small _ (by decide)) hm1 hm2
      have hek := fun W => Try.evt_any k (by omega) W
      have e3 : ((i - 1 - k : Nat) : Int) = (i : Int) - 1 - (k : Int) := by omega
      have e2 : (((i + 1) / 2 : Nat) : Int) = ((i : Int) + 1) / 2 := by omega
      have e4 : (((i + 1) / 2 - (k + 2) / 2 : Nat) : Int) = ((i : Int) + 1) / 2 - ((k : Int) + 2) / 2 := by omega
      rw [e2] at hco
      have HM3 : Hid _ := hm3
      have HM4 : Hid _ := hm4
      have HLT : Hid _ := hlt
      have HFK : Hid _ := hfk
      have HES : Hid _ := hes
      have HBEL : Hid _ := hbel
      have HE3 : Hid _ := e3
      have HE4 : Hid _ := e4
      have q1 : ¬ (i : Int) < (i : Int) := by omega
      have qk : (k : Int) < (i : Int) := by omega
      obtain ⟨A1, hA1⟩ : ∃ A1, A1 = min (i : Int) 99 := ⟨_, rfl⟩
      obtain ⟨A2, hA2⟩ : ∃ A2, A2 = min (((i : Int) + 1) / 2) 99 := ⟨_, rfl⟩
      obtain ⟨A3, hA3⟩ : ∃ A3, A3 = min ((i : Int) - 1 - (k : Int)) 99 := ⟨_, rfl⟩
      obtain ⟨A4, hA4⟩ : ∃ A4, A4 = min (((i : Int) + 1) / 2 - ((k : Int) + 2) / 2) 99 := ⟨_, rfl⟩
      rw [← hA1, ← hA2] at hco
      have HA1 : Hid _ := hA1
      have HA2 : Hid _ := hA2
      have HA3 : Hid _ := hA3
      have HA4 : Hid _ := hA4
      clear hB hC hbel hm1 hm2 hm3 hm4 hfk hlt hes e2 e3 e4 hA1 hA2 hA3 hA4
      go_wp2_with (first
        | (go_at_call 13; refine hco.mono ?_; clear hco; rintro z w4 ⟨rfl, hB4, hb4⟩; have hrc := Try.receipt_f hB4 (by unfold maxLen; omega) Ct.tA Ct.tR (evt k) HES.out (Ct.small _ (by decide)) (Ct.small _ (by decide)); rw [decide_eq_true HLT.out, if_pos HLT.out, HFK.out] at hrc; have HB4 : Hid _ := hb4; clear hB4 hb4)
        | (go_at_call 11; refine (hp2 _).mono ?_; clear hp2; rintro z w5 ⟨rfl, rfl⟩)
        | (go_at_call 12; refine (hek _).mono ?_; clear hek; rintro z w6 ⟨rfl, rfl⟩)
        | (go_at_call 14; refine hrc.mono ?_; clear hrc; rintro z w7 ⟨rfl, hB7, hb7⟩; have hcp := Try.counts_f hB7 (by omega) Ct.tA Ct.tR (Ct.small _ (by decide)) (Ct.small _ (by decide)) HM3.out HM4.out; rw [HE3.out, HE4.out, ← HA3.out, ← HA4.out] at hcp; have HB7 : Hid _ := hb7; clear hB7 hb7)
        | (go_at_call 13; refine hcp.mono ?_; clear hcp; rintro z w8 ⟨rfl, hB8, hb8⟩; have HB8 : Hid _ := hb8; clear hB8 hb8)
        | fail)
      all_goals
        go_ret
        have a1 := HA1.out
        have a2 := HA2.out
        have a3 := HA3.out
        have a4 := HA4.out
        refine ⟨?_, (HBEL.out.trans HB4.out).trans (HB7.out.trans HB8.out)⟩
        show Ending.returned (Value.bool _) = Ending.returned (Value.bool true)
        congr 2
        first
          | (rw [beq_iff_eq]; omega)
          | (exfalso; omega)
end Go.Proofs
