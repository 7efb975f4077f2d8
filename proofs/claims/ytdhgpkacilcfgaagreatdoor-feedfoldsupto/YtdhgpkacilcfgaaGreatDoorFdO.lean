/-
  FEED: the variables that are read; plain: a number's digits are read as that number.
-/
import Derived.Test.YtdhgpkacilcfgaaGreatDoorFdN
import Derived.Test.YtdhgpkacilcfgaaGreatDoorShelf
import Derived.Lib.ParseIntBCases
import Derived.Lib.ParseIntBTie
import Derived.Lib.ItoaMem
import Derived.Lib.ItoaLen
import Derived.Deep.Cut
namespace Go.FdP
open Go.Lib
def isDigit (c : UInt8) : Bool := decide (48 ≤ c.toNat ∧ c.toNat ≤ 57)
theorem parseM_dec (M : Nat) : ∀ (u : Nat) (r : List UInt8), u ≤ M → u ≤ 18446744073709551615 → parseUintM M 0 (decDigits u ++ r) = parseUintM M u r := by
  intro u
  induction u using Nat.strongRecOn with
  | _ u ih =>
    intro r hM hu
    by_cases h : u < 10
    · rw [decDigits_one h]
      have hc : (UInt8.ofNat (48 + u)).toNat = 48 + u := by simp [UInt8.toNat_ofNat']; omega
      show parseUintM M 0 (UInt8.ofNat (48 + u) :: r) = _
      rw [parseUintM, hc, if_pos (by omega), if_neg (by omega), if_neg (by omega)]
      congr 1
      omega
    · rw [decDigits, dif_neg h, List.append_assoc, ih (u / 10) (by omega) _ (by omega) (by omega)]
      have hc : (UInt8.ofNat (48 + u % 10)).toNat = 48 + u % 10 := by simp [UInt8.toNat_ofNat']; omega
      show parseUintM M (u / 10) (UInt8.ofNat (48 + u % 10) :: r) = _
      rw [parseUintM, hc, if_pos (by omega), if_neg (by omega), if_neg (by omega)]
      congr 1
      omega
/-- The digits: the first is none, but of 0. -/
theorem dec_shape : ∀ (u : Nat), (∀ c ∈ decDigits u, isDigit c = true) ∧ ∃ c r, decDigits u = c :: r ∧ (c.toNat = 48 → r = []) := by
  intro u
  induction u using Nat.strongRecOn with
  | _ u ih =>
    by_cases h : u < 10
    · have hc : (UInt8.ofNat (48 + u)).toNat = 48 + u := by simp [UInt8.toNat_ofNat']; omega
      rw [decDigits_one h]
      refine ⟨fun c hm => ?_, _, _, rfl, fun _ => rfl⟩
      simp only [List.mem_singleton] at hm
      subst hm
      simp [isDigit]; omega
    · have hc : (UInt8.ofNat (48 + u % 10)).toNat = 48 + u % 10 := by simp [UInt8.toNat_ofNat']; omega
      obtain ⟨h1, c, r, h2, h3⟩ := ih (u / 10) (by omega)
      rw [decDigits, dif_neg h]
      refine ⟨fun d hm => ?_, c, r ++ [UInt8.ofNat (48 + u % 10)], by rw [h2]; rfl, fun h48 => ?_⟩
      · rcases List.mem_append.1 hm with hm | hm
        · exact h1 d hm
        · simp only [List.mem_singleton] at hm
          subst hm
          simp [isDigit]; omega
      · exfalso
        have hr := h3 h48
        subst hr
        by_cases h10 : u / 10 < 10
        · rw [decDigits_one h10] at h2
          have hc' : (UInt8.ofNat (48 + u / 10)).toNat = 48 + u / 10 := by simp [UInt8.toNat_ofNat']; omega
          rw [List.cons.injEq] at h2
          rw [h2.1] at hc'
          omega
        · have := congrArg List.length h2
          rw [decDigits, dif_neg h10] at this
          obtain ⟨_, c', r', h2', _⟩ := ih (u / 10 / 10) (by omega)
          rw [h2'] at this
          simp at this
theorem dec_ne (u : Nat) : decDigits u ≠ [] := by obtain ⟨_, c, r, h, _⟩ := dec_shape u; rw [h]; exact List.cons_ne_nil _ _
theorem parseB_dec (u : Nat) (h : u ≤ 18446744073709551615) : parseUintB 64 (decDigits u) = .ok u := by
  unfold parseUintB
  rw [if_neg (dec_ne u)]
  have := parseM_dec (2 ^ 64 - 1) u [] (by omega) h
  rw [List.append_nil] at this
  rw [this, parseUintM]
theorem parse_itoa (n : Int) (h0 : -9223372036854775808 ≤ n) (h1 : n ≤ 9223372036854775807) : parseIntB 64 (itoa n) = .ok n := by
  unfold itoa
  split
  · rw [parseIntB_minus, parseB_dec _ (by omega)]
    have e : ¬ (2 ^ (64 - 1) < n.natAbs) := by omega
    have e2 : -(n.natAbs : Int) = n := by omega
    simp only [signedC, e, if_false, e2]
  · obtain ⟨hd, c, r, h2, _⟩ := dec_shape n.toNat
    have hc := hd c (by rw [h2]; simp)
    simp [isDigit] at hc
    rw [h2, parseIntB_plain 64 c r (by omega) (by omega), ← h2, parseB_dec _ (by omega)]
    have e : ¬ (2 ^ (64 - 1) ≤ n.toNat) := by omega
    have e2 : (n.toNat : Int) = n := by omega
    simp only [signlessC, e, if_false, e2]
end Go.FdP
namespace Go.Proofs
open Go.RowKit Go.Wi Go.Fd Go.Sort
/-- The variables hold what their initialisers lay. -/
structure Tryz.Tabs0 (w : World) : Prop where
  es : ∃ te pe, w.cell? ⟨1, 0, none⟩ = some (.iface te pe)
  er : ∃ te pe, w.cell? ⟨2, 0, none⟩ = some (.iface te pe)
  p10 : Lib.TabIs Tryz.prog w "internal/strconv.uint64pow10" .u64 Lib.pow10Tab
/-- So it is, whatever becomes of the blocks behind the variables'. -/
structure Tryz.Tb (w : World) : Prop where
  size : 5 ≤ w.heap.size
  all : ∀ w' : World, (∀ k, k < 5 → w'.heap[k]? = w.heap[k]?) → Tryz.Tabs0 w'
theorem Tryz.Tb.here {w : World} (h : Tryz.Tb w) : Tryz.Tabs0 w := h.all w fun _ _ => rfl
theorem Tryz.Tb.below {w w' : World} {B : Nat} (h : Tryz.Tb w) (g : Below B w w') (hB : 5 ≤ B) : Tryz.Tb w' :=
  ⟨Nat.le_trans h.size g.size, fun w2 h2 => h.all w2 fun k hk => (h2 k hk).trans (g.block k (Nat.lt_of_lt_of_le hk hB))⟩
theorem Tryz.Tb.past {w w' : World} (h : Tryz.Tb w) (g : Below w.heap.size w w') : Tryz.Tb w' := h.below g h.size
theorem Tryz.Tb.wo {w w' : World} {own : Nat → Prop} (h : Tryz.Tb w) (g : Wo own w w') (ho : ∀ k, own k → 5 ≤ k) : Tryz.Tb w' :=
  ⟨Nat.le_trans h.size g.size, fun w2 h2 => h.all w2 fun k hk => (h2 k hk).trans (g.block k (Nat.lt_of_lt_of_le hk h.size) fun e => by have := ho k e; omega)⟩
/-- A number as a place. -/
def Fd.fmt (n : Nat) : ByteArray := ⟨(Lib.itoa (n : Int)).toArray⟩
theorem Fd.past_grow {w w' : World} (h : ∃ k os, w' = grow (w.drewN k) os) : Below w.heap.size w w' := by
  obtain ⟨k, os, rfl⟩ := h
  exact Fd.below_grow (Below.refl _ w) (Nat.le_refl _) k os
theorem Fd.bytes_past {w w' : World} {T : TypeId} (h : w' = w ∨ ∃ t, w' = Lib.bytesWorld w T t) : Below w.heap.size w w' := by
  rcases h with rfl | ⟨t, rfl⟩
  · exact Below.refl _ _
  · exact Lib.bytesWorld_below _ _ _
set_option maxRecDepth 20000 in
theorem Tryz.placeOf_any (n : Nat) (hn : n ≤ 9223372036854775807) (w : World) (hT : Tryz.Tb w) : Calls Tryz.prog 25 #[.int .i64 n] w fun e w' => e = .returned (.string (Fd.fmt n)) ∧ Below w.heap.size w w' := by
  have hf := Tryz.strconv_FormatInt_10 n (by omega) (by omega) w hT.here.p10
  clear hT
  unfold Fd.fmt
  go_enter Tryz.func25, Tryz.ntmps25
  go_wp2_with (first
    | (go_at_call 44; refine hf.mono ?_; clear hf; rintro e w1 ⟨rfl, hg⟩)
    | fail)
  go_ret
  exact ⟨rfl, Fd.past_grow hg⟩
theorem Tryz.parse_some (s : ByteArray) (hs : s.size ≤ 281474976710656) (n : Int) (h : Lib.parseIntB 64 s.data.toList = .ok n) (w : World) :
    Calls Tryz.prog 52 #[.string s, .int .i64 10, .int .i64 64] w fun e w' => e = .returned (.tuple #[.int .i64 n, .nilIface]) ∧ Below w.heap.size w w' :=
  (Tryz.strconv_ParseInt_10_at64_ok s (by omega) n h w).mono fun _ _ hq => ⟨hq.1, Fd.bytes_past hq.2⟩
theorem Tryz.parse_none (s : ByteArray) (hs : s.size ≤ 281474976710656) (h : ∀ n, Lib.parseIntB 64 s.data.toList ≠ .ok n) (w : World) (hT : Tryz.Tb w) :
    Calls Tryz.prog 52 #[.string s, .int .i64 10, .int .i64 64] w fun e w' => ∃ n N, e = .returned (.tuple #[.int .i64 n, .iface 120 (.pointer (some ⟨N, 0, none⟩))]) ∧ Below w.heap.size w w' := by
  cases hp : Lib.parseIntB 64 s.data.toList with
  | ok n => exact absurd hp (h n)
  | «syntax» =>
    obtain ⟨te, pe, hc⟩ := hT.here.es
    exact (Tryz.strconv_ParseInt_10_at64_syntax s (by omega) hp _ w hc (.inr ⟨te, pe, rfl⟩)).mono fun _ _ ⟨N, h1, _, _, h4⟩ => ⟨_, N, h1, h4⟩
  | range =>
    obtain ⟨te, pe, hc⟩ := hT.here.er
    exact (Tryz.strconv_ParseInt_10_at64_range s (by omega) hp _ w hc (.inr ⟨te, pe, rfl⟩)).mono fun _ _ ⟨N, h1, _, _, h4⟩ => ⟨_, N, h1, h4⟩
/-- The number that a place stands for. -/
def Fd.At (s : ByteArray) (n : Nat) : Prop := n ≤ 9223372036854775807 ∧ s = Fd.fmt n
set_option maxRecDepth 20000 in
set_option maxHeartbeats 500000 in
theorem Tryz.numberAt_yes {s : ByteArray} {n : Nat} (h : Fd.At s n) (w : World) (hT : Tryz.Tb w) :
    Calls Tryz.prog 42 #[.string s] w fun e w' => e = .returned (.tuple #[.int .i64 n, .bool true]) ∧ Below w.heap.size w w' := by
  obtain ⟨hn, rfl⟩ := h
  have hsz : (Fd.fmt n).size ≤ 281474976710656 := by
    have := Lib.itoa_length_le n (by omega) (by omega)
    show (Lib.itoa (n : Int)).toArray.size ≤ _
    simp
    omega
  have hp := Tryz.parse_some (Fd.fmt n) hsz n (by show Lib.parseIntB 64 (Lib.itoa (n : Int)).toArray.toList = _; exact FdP.parse_itoa n (by omega) (by omega)) w
  have HT : Hid (Tryz.Tb w) := hT
  have q0 : ¬ ((n : Int) < 0) := by omega
  clear hT hsz
  generalize hx : Fd.fmt n = x at *
  go_enter Tryz.func42, Tryz.ntmps42
  go_upto_region 2 with (first
    | (go_at_call 52; refine hp.mono ?_; clear hp; rintro e w1 ⟨rfl, hb1⟩)
    | fail)
  have hpl := Tryz.placeOf_any n hn w1 (HT.out.past hb1)
  rw [hx] at hpl
  go_wp2_with (first
    | (go_at_call 25; refine hpl.mono ?_; clear hpl; rintro e w2 ⟨rfl, hb2⟩)
    | fail)
  go_ret2
  exact ⟨rfl, hb1.trans (hb2.mono hb1.size)⟩
set_option maxRecDepth 20000 in
set_option maxHeartbeats 500000 in
theorem Tryz.numberAt_no {s : ByteArray} (h : ∀ n, ¬ Fd.At s n) (hs : s.size ≤ 281474976710656) (w : World) (hT : Tryz.Tb w) :
    Calls Tryz.prog 42 #[.string s] w fun e w' => e = .returned (.tuple #[.int .i64 0, .bool false]) ∧ Below w.heap.size w w' := by
  by_cases hp : ∃ n, Lib.parseIntB 64 s.data.toList = .ok n
  · obtain ⟨n, hp⟩ := hp
    have hq := Tryz.parse_some s hs n hp w
    have hbd := Lib.parseIntB_bounds hp
    have HT : Hid (Tryz.Tb w) := hT
    have HN : Hid (∀ n, ¬ Fd.At s n) := h
    have hn1 : n ≤ 9223372036854775807 := by have := hbd.2; simp at this; omega
    clear hp hT h hs hbd
    by_cases q0 : n < 0
    · go_enter Tryz.func42, Tryz.ntmps42
      go_wp2_with (first
        | (go_at_call 52; refine hq.mono ?_; clear hq; rintro e w1 ⟨rfl, hb1⟩)
        | fail)
      go_ret2
      exact ⟨rfl, hb1⟩
    · obtain ⟨m, rfl⟩ : ∃ m : Nat, n = m := ⟨n.toNat, by omega⟩
      have hne : (Fd.fmt m).toList ≠ s.toList := fun e => HN.out m ⟨by omega, (toList_inj e).symm⟩
      have hne' : ((Fd.fmt m).toList == s.toList) = false := by simpa using hne
      go_enter Tryz.func42, Tryz.ntmps42
      go_upto_region 2 with (first
        | (go_at_call 52; refine hq.mono ?_; clear hq; rintro e w1 ⟨rfl, hb1⟩)
        | fail)
      have hpl := Tryz.placeOf_any m (by omega) w1 (HT.out.past hb1)
      go_wp2_with (first
        | (go_at_call 25; refine hpl.mono ?_; clear hpl; rintro e w2 ⟨rfl, hb2⟩)
        | fail)
      go_ret2
      exact ⟨rfl, hb1.trans (hb2.mono hb1.size)⟩
  · have hq := Tryz.parse_none s hs (fun n e => hp ⟨n, e⟩) w hT
    clear hp hT h hs
    go_enter Tryz.func42, Tryz.ntmps42
    go_wp2_with (first
      | (go_at_call 52; refine hq.mono ?_; clear hq; rintro e w1 ⟨n, N, rfl, hb1⟩)
      | fail)
    go_ret2
    exact ⟨rfl, hb1⟩
end Go.Proofs
