/-
  FEED: the laws' pick, digits, awake.
-/
import Derived.Test.YtdhgpkacilcfgaaGreatDoorFdV
namespace Go.Fd
def pickN (c : Int) (n : Nat) : Nat := (if c < 0 then -(c + 1) else c).toNat % n
theorem pickN_lt (c : Int) {n : Nat} (h : 0 < n) : pickN c n < n := Nat.mod_lt _ h
theorem pick_neg {c : Int} {n : Nat} (hc : c < 0) : -(c + 1).tmod (n : Int) = ((pickN c n : Nat) : Int) := by
  obtain ⟨m, hm⟩ : ∃ m : Nat, -(c + 1) = (m : Int) := ⟨(-(c + 1)).toNat, by omega⟩
  have h1 : c + 1 = -(m : Int) := by omega
  rw [pickN, if_pos hc, hm, h1, Int.neg_tmod, Int.neg_neg, ← Int.ofNat_tmod]; rfl
theorem pick_pos {c : Int} {n : Nat} (hc : 0 ≤ c) : c % (n : Int) = ((pickN c n : Nat) : Int) := by
  obtain ⟨m, rfl⟩ : ∃ m : Nat, c = (m : Int) := ⟨c.toNat, by omega⟩
  rw [pickN, if_neg (by omega)]; rfl
theorem lastE_one (c : Cn) : lastE [c] = [c] := by simp [lastE, lastN]
theorem stab_one (c : Cn) : stab [c] = [c] := by
  unfold stab
  rw [stabA_one _ _ (by simp)]
theorem sheet_one (c : Cn) : sheet [c] = [c] := by unfold sheet; rw [stab_one, lastE_one]
end Go.Fd
namespace Go.Proofs
open Go.RowKit Go.Wi Go.Fd Go.Sort
theorem Fd.fmt_few (n : Nat) (h : n < 10) : Fd.fmt n = ⟨#[UInt8.ofNat (48 + n)]⟩ := by
  unfold Fd.fmt Lib.itoa Lib.decDigits
  rw [if_neg (by omega), dif_pos (by simpa using h)]
  simp
theorem Fd.fmt_more (n : Nat) (h : ¬ n < 10) : Fd.fmt n = Fd.fmt (n / 10) ++ ⟨#[UInt8.ofNat (48 + n % 10)]⟩ := by
  have e : Lib.itoa (n : Int) = Lib.itoa ((n / 10 : Nat) : Int) ++ [UInt8.ofNat (48 + n % 10)] := by
    unfold Lib.itoa
    rw [if_neg (by omega), if_neg (by omega), Int.toNat_natCast, Int.toNat_natCast]
    conv => lhs; unfold Lib.decDigits
    rw [dif_neg h]
  unfold Fd.fmt
  rw [e]
  apply ByteArray.ext
  simp
theorem Fd.dig (d : Nat) (h : d < 10) : (⟨#[48, 49, 50, 51, 52, 53, 54, 55, 56, 57]⟩ : ByteArray).extract d (d + 1) = ⟨#[UInt8.ofNat (48 + d)]⟩ := by
  match d, h with
  | 0, _ => rfl
  | 1, _ => rfl
  | 2, _ => rfl
  | 3, _ => rfl
  | 4, _ => rfl
  | 5, _ => rfl
  | 6, _ => rfl
  | 7, _ => rfl
  | 8, _ => rfl
  | 9, _ => rfl
theorem Fd.at_fmt (n : Nat) (h : n ≤ 9223372036854775807) : Fd.At (Fd.fmt n) n := ⟨h, rfl⟩
theorem Fd.fmt_inj {a b : Nat} (ha : a ≤ 9223372036854775807) (hb : b ≤ 9223372036854775807) (h : Fd.fmt a = Fd.fmt b) : a = b := by
  have e : Lib.itoa (a : Int) = Lib.itoa (b : Int) := by
    have := congrArg (fun x : ByteArray => x.data.toList) h
    simpa [Fd.fmt] using this
  have h1 := FdP.parse_itoa a (by omega) (by omega)
  rw [e, FdP.parse_itoa b (by omega) (by omega)] at h1
  injection h1 with h1
  omega
theorem Fd.at_one {s : ByteArray} {a b : Nat} (ha : Fd.At s a) (hb : Fd.At s b) : a = b := Fd.fmt_inj ha.1 hb.1 (ha.2.symm.trans hb.2)
def Fd.ua : ByteArray := ⟨#[64, 97]⟩
def Fd.rr : ByteArray := ⟨#[33, 114]⟩
theorem Fd.last_two {a b l : List Cn} (h : [a, b].getLast? = some l) : l = b := by simpa using h.symm
theorem Fd.row_is {w : World} {B n k : Nat} {T : TypeId} {V : Value} {cs : List Value} (h : w.ownsRow B T k V n cs) : ∃ ad cap, V = .slice ad n cap := by
  rcases h.2 with ⟨rfl, e0⟩ | ⟨g, cap, cur, rfl, _⟩
  · exact ⟨none, 0, by rw [e0]⟩
  · exact ⟨_, _, rfl⟩
/-- What is kept of a user. -/
def Fd.keptOf (F : ByteArray → Option Sh) (y : ByteArray) : Sh := (F y).getD sh0
theorem Fd.kept_put (F : ByteArray → Option Sh) (u : ByteArray) (x : List Cn) (y : ByteArray) : Fd.keptOf (putF F u x) y = if y = u then (putS (Fd.keptOf F u) x).getD (Fd.keptOf F u) else Fd.keptOf F y := by
  unfold Fd.keptOf putF
  cases h : putS ((F u).getD sh0) x with
  | none =>
    by_cases hy : y = u
    · simp [hy]
    · simp [hy]
  | some s =>
    by_cases hy : y = u
    · simp [hy]
    · simp [hy]
/-- A hub above a floor. -/
structure Tryz.Hx (B : Nat) (w : World) (hb n : Nat) (F : ByteArray → Option Sh) : Prop where
  ex : ∃ own p mb, Tryz.Hb w own p hb mb n F ∧ ∀ k, Fd.All own hb mb k → B ≤ k
  fl : B ≤ w.heap.size
theorem Tryz.Hx.past {B hb n : Nat} {w w' : World} {F : ByteArray → Option Sh} (h : Tryz.Hx B w hb n F) (g : Below w.heap.size w w') : Tryz.Hx B w' hb n F := by
  obtain ⟨own, p, mb, h1, h2⟩ := h.ex
  exact ⟨⟨own, p, mb, h1.below g (Nat.le_refl _), h2⟩, Nat.le_trans h.fl g.size⟩
theorem Tryz.Hx.new (w : World) : Calls Tryz.prog 6 #[] w fun e w' => ∃ hb, e = .returned (.pointer (some ⟨hb, 0, none⟩)) ∧ Tryz.Hx w.heap.size w' hb 0 (fun _ => none) ∧ Below w.heap.size w w' := by
  refine (Tryz.new_any w).mono ?_
  rintro e w' ⟨hb, mb, rfl, hH, hb1, k1, k2⟩
  refine ⟨hb, rfl, ⟨⟨_, _, mb, hH, fun k e => ?_⟩, hb1.size⟩, hb1⟩
  rcases e with rfl | rfl | ⟨_, e⟩
  · exact k1
  · exact k2
  · exact e.elim
theorem Tryz.Hx.put {B hb n : Nat} {w : World} {F : ByteArray → Option Sh} (h : Tryz.Hx B w hb n F) (u : ByteArray) (hu : u.size ≤ maxLen) (hn : n < 1000000) {V : Value} {l : List Cn} (hl : Cs w V l) (hV : ∀ k, V.ownBlock = some k → k < w.heap.size) (hll : l.length ≤ 4398046511104) :
    Calls Tryz.prog 7 #[.pointer (some ⟨hb, 0, none⟩), .string u, V] w fun e w' => e = .returned (.tuple #[]) ∧ Tryz.Hx B w' hb (n + 1) (putF F u (sheet l)) ∧ Below B w w' := by
  obtain ⟨own, p, mb, h1, h2⟩ := h.ex
  refine (Tryz.put_any h1 u hu hn hl hV hll).mono ?_
  rintro e w' ⟨rfl, own', p', hH, hw, ho⟩
  refine ⟨rfl, ⟨⟨own', p', mb, hH, fun k e => ?_⟩, Nat.le_trans h.fl hw.size⟩, hw.toBelow (Below.refl _ w) h2 h.fl⟩
  rcases e with rfl | rfl | ⟨y, e⟩
  · exact h2 _ (.inl rfl)
  · exact h2 _ (.inr (.inl rfl))
  · rcases ho y k e with e | e
    · exact h2 _ (.inr (.inr ⟨y, e⟩))
    · exact Nat.le_trans h.fl e
set_option maxRecDepth 20000 in
set_option maxHeartbeats 1000000 in
theorem Tryz.awake_any (w : World) (hT : Tryz.Tb w) : Calls Tryz.prog 5 #[] w fun e w' => e = .returned (.bool true) ∧ Below w.heap.size w w' := by
  have hn := Tryz.Hx.new w
  have HT : Hid (Tryz.Tb w) := hT
  have hgt : Tryz.prog.eqGuardType Tryz.prog.depth 39 = false := by kernel_rfl
  clear hT
  go_enter Tryz.func5, Tryz.ntmps5
  go_upto_region 4 with (first
    | (go_at_call 6; refine hn.mono ?_; clear hn; rintro e w1 ⟨hb, rfl, hH, hb1⟩)
    | fail)
  have hb2 : Below w1.heap.size w1 (w1.alloc (.cells #[.string ⟨#[33, 114]⟩, .int .i64 2, .int .i64 1] 39)) := (Below.refl _ w1).alloc (Nat.le_refl _) _
  have hp := (hH.past hb2).put ⟨#[64, 97]⟩ (by unfold maxLen; decide) (by omega) (Fd.cs_one (x := ⟨⟨#[33, 114]⟩, 2, 1⟩) (heap_alloc_new w1 (.cells #[.string ⟨#[33, 114]⟩, .int .i64 2, .int .i64 1] 39))) (fun k e => by cases e; simp) (by simp)
  rw [sheet_one] at hp
  have HB1 : Hid (Below w.heap.size w (w1.alloc (.cells #[.string ⟨#[33, 114]⟩, .int .i64 2, .int .i64 1] 39))) := Fd.bel_on hb1 hb1.size hb2
  clear hH hb1 hb2
  go_upto_region 5 with (first
    | (go_at_call 7; refine hp.mono ?_; clear hp; rintro e w2 ⟨rfl, hH2, hb2⟩)
    | fail)
  have hF : Fd.keptOf (putF (fun _ => none) ⟨#[64, 97]⟩ [⟨⟨#[33, 114]⟩, 2, 1⟩]) ⟨#[64, 97]⟩ = (1, [[], [⟨⟨#[33, 114]⟩, 2, 1⟩]]) := by
    rw [Fd.kept_put, if_pos rfl]
    simp [Fd.keptOf, sh0, putS, trim]
  have HB2 : Hid (Below w.heap.size w w2) := HB1.out.trans hb2
  obtain ⟨own, p, mb, hH3, _⟩ := hH2.ex
  have hs := Tryz.since_part (k := 0) (t := []) hH3 (HT.out.past HB2.out) ⟨#[64, 97]⟩ (by unfold maxLen; decide) ⟨#[48]⟩ ⟨by omega, by rw [Fd.fmt_few 0 (by omega)]; rfl⟩ (by show (Fd.keptOf _ _).1 - 50 ≤ 0; rw [hF]; decide) (Nat.zero_le _) (by show (Fd.keptOf _ _).2[0 - ((Fd.keptOf _ _).1 - 50)]? = _; rw [hF]; rfl)
  have hF1 : ((putF (fun _ => none) ⟨#[64, 97]⟩ [⟨⟨#[33, 114]⟩, 2, 1⟩] ⟨#[64, 97]⟩).getD sh0).1 = 1 := by show (Fd.keptOf _ _).1 = _; rw [hF]
  have hF2 : ((putF (fun _ => none) ⟨#[64, 97]⟩ [⟨⟨#[33, 114]⟩, 2, 1⟩] ⟨#[64, 97]⟩).getD sh0).2 = [[], [⟨⟨#[33, 114]⟩, 2, 1⟩]] := by show (Fd.keptOf _ _).2 = _; rw [hF]
  rw [hF1, hF2, Fd.fmt_few 1 (by omega)] at hs
  clear hH2 hH3 hb2 hF hF1 hF2
  have heq : ∀ W : World, (Op.equalIn 10000 39 (.agg #[.string ⟨#[33, 114]⟩, .int .i64 2, .int .i64 1]) (.agg #[.string ⟨#[33, 114]⟩, .int .i64 2, .int .i64 1])).run Tryz.prog W = .ok true W := fun W => by
    have := Tryz.eqCn ⟨⟨#[33, 114]⟩, 2, 1⟩ ⟨⟨#[33, 114]⟩, 2, 1⟩ W
    rwa [decide_eq_true rfl] at this
  go_wp2_with (first
    | (go_at_call 8; refine hs.mono ?_; clear hs; rintro e w3 ⟨V, G, l, rfl, hl, hr, hg, hb3⟩; have hl' : l = [⟨⟨#[33, 114]⟩, 2, 1⟩] := Fd.last_two hl; subst hl'; have hch : changed [(⟨⟨#[33, 114]⟩, 2, 1⟩ : Cn)] [] = [⟨⟨#[33, 114]⟩, 2, 1⟩] := rfl; have hgl : goneL [(⟨⟨#[33, 114]⟩, 2, 1⟩ : Cn)] [] = [] := rfl; rw [hch] at hr; rw [hgl] at hg; obtain ⟨ad, cap, rfl⟩ := (Cs.ofRow hr).is; obtain ⟨ag, cg, rfl⟩ := Fd.row_is hg; obtain ⟨gg, oo, rfl, d1, d2, d3⟩ := (Cs.ofRow hr).at (i := 0) (by simp); simp only [List.getElem_cons_zero, Nat.zero_mul, Nat.add_zero] at d1 d2 d3)
    | fail)
  go_ret
  exact ⟨rfl, Fd.bel_on HB2.out HB2.out.size hb3⟩
end Go.Proofs
