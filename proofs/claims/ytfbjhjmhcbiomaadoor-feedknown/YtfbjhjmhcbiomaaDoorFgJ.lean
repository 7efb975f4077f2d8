/-
  FEED: a hub beside two counts; places; asks.
-/
import Derived.Test.YtfbjhjmhcbiomaaDoorFgI
namespace Go.Proofs
open Go.RowKit Go.Wi Go.Fd Go.Sort
/-- The first digit. -/
theorem Fd.fmt_head : ∀ m k : Nat, k ≤ m → ∃ d, d < 10 ∧ (k ≠ 0 → d ≠ 0) ∧ (Fd.fmt k).data[0]? = some (UInt8.ofNat (48 + d))
  | m, k, hk => by
    by_cases h : k < 10
    · exact ⟨k, h, id, by rw [Fd.fmt_few k h]; rfl⟩
    · cases m with
      | zero => omega
      | succ m =>
        obtain ⟨d, h1, h2, h3⟩ := Fd.fmt_head m (k / 10) (by omega)
        refine ⟨d, h1, fun _ => h2 (by omega), ?_⟩
        rw [Fd.fmt_more k h, ByteArray.data_append, Array.getElem?_append_left (by
          have := (Array.getElem?_eq_some_iff.1 h3).1
          exact this)]
        exact h3
theorem Fd.no_at {s : ByteArray} {b : UInt8} (hs : s.data[0]? = some b) (hb : ∀ d, d < 10 → b ≠ UInt8.ofNat (48 + d)) (k : Nat) : ¬ Fd.At s k := fun h => by
  obtain ⟨d, h1, _, h3⟩ := Fd.fmt_head k k (Nat.le_refl _)
  rw [← h.2, hs] at h3
  exact hb d h1 (Option.some.inj h3)
theorem Fd.no_01 (k : Nat) : ¬ Fd.At ⟨#[48, 49]⟩ k := fun h => by
  obtain ⟨d, h1, h2, h3⟩ := Fd.fmt_head k k (Nat.le_refl _)
  rw [← h.2] at h3
  have h4 : (48 : UInt8) = UInt8.ofNat (48 + d) := Option.some.inj h3
  by_cases hk : k = 0
  · subst hk
    have h5 := h.2
    rw [Fd.fmt_few 0 (by omega)] at h5
    injection h5 with h5
    injection h5 with h5
    injection h5 with h5 h6
    cases h6
  · have hd := h2 hk
    have h5 : (48 : UInt8).toNat = (UInt8.ofNat (48 + d)).toNat := congrArg _ h4
    rw [UInt8.toNat_ofNat'] at h5
    have : (48 : UInt8).toNat = 48 := rfl
    omega
theorem Fd.no_neg (k : Nat) : ¬ Fd.At ⟨#[45, 49]⟩ k := Fd.no_at (b := 45) rfl (fun d hd e => by
  have h5 : (45 : UInt8).toNat = (UInt8.ofNat (48 + d)).toNat := congrArg _ e
  rw [UInt8.toNat_ofNat'] at h5
  have : (45 : UInt8).toNat = 45 := rfl
  omega) k
theorem Fd.no_x (k : Nat) : ¬ Fd.At ⟨#[120]⟩ k := Fd.no_at (b := 120) rfl (fun d hd e => by
  have h5 : (120 : UInt8).toNat = (UInt8.ofNat (48 + d)).toNat := congrArg _ e
  rw [UInt8.toNat_ofNat'] at h5
  have : (120 : UInt8).toNat = 120 := rfl
  omega) k
theorem Fd.at_dig (d : Nat) (h : d < 10) : Fd.At ⟨#[UInt8.ofNat (48 + d)]⟩ d := ⟨by omega, (Fd.fmt_few d h).symm⟩
def Fd.kF1 : ByteArray → Option Sh := putF (fun _ => none) ⟨#[64, 97]⟩ (sheet [knP])
def Fd.kF2 : ByteArray → Option Sh := putF Fd.kF1 ⟨#[64, 97]⟩ (sheet [knR, knS])
def Fd.kF3 : ByteArray → Option Sh := putF Fd.kF2 ⟨#[64, 97]⟩ (sheet [knS])
theorem Fd.k_two : Fd.keptOf Fd.kF2 ⟨#[64, 97]⟩ = (2, [[], [knP], [knR, knS]]) := by decide +kernel
theorem Fd.k_three : Fd.keptOf Fd.kF3 ⟨#[64, 97]⟩ = (3, [[], [knP], [knR, knS], [knS]]) := by decide +kernel
theorem Fd.k_other : Fd.keptOf Fd.kF2 ⟨#[64, 98]⟩ = (0, [[]]) := by decide +kernel
/-- A hub, and two counts that are not its. -/
structure Tryd.Hz (B : Nat) (w : World) (hb n : Nat) (F : ByteArray → Option Sh) (br bs : Nat) : Prop where
  ex : ∃ own p mb, Tryd.Hb w own p hb mb n F ∧ ∀ k, Fd.All own hb mb k → B ≤ k ∧ k ≠ br ∧ k ≠ bs
  fl : B ≤ w.heap.size
  hr : w.heap[br]? = some (.cells #[.string knR.room, .int .i64 knR.un, .int .i64 knR.hi] 28 (0, 0))
  hs : w.heap[bs]? = some (.cells #[.string knS.room, .int .i64 knS.un, .int .i64 knS.hi] 28 (0, 0))
theorem Tryd.Hz.past {B hb n br bs : Nat} {w w' : World} {F : ByteArray → Option Sh} (h : Tryd.Hz B w hb n F br bs) (g : Below w.heap.size w w') : Tryd.Hz B w' hb n F br bs := by
  obtain ⟨own, p, mb, h1, h2⟩ := h.ex
  exact ⟨⟨own, p, mb, h1.below g (Nat.le_refl _), h2⟩, Nat.le_trans h.fl g.size, (g.block br (block_lt h.hr)).trans h.hr, (g.block bs (block_lt h.hs)).trans h.hs⟩
theorem Tryd.Hz.put {B hb n br bs : Nat} {w : World} {F : ByteArray → Option Sh} (h : Tryd.Hz B w hb n F br bs) (u : ByteArray) (hu : u.size ≤ maxLen) (hn : n < 1000000) {V : Value} {l : List Cn} (hl : Cs w V l) (hV : ∀ k, V.ownBlock = some k → k < w.heap.size) (hll : l.length ≤ 4398046511104) :
    Calls Tryd.prog 9 #[.pointer (some ⟨hb, 0, none⟩), .string u, V] w fun e w' => e = .returned (.tuple #[]) ∧ Tryd.Hz B w' hb (n + 1) (putF F u (sheet l)) br bs ∧ Below B w w' := by
  obtain ⟨own, p, mb, h1, h2⟩ := h.ex
  refine (Tryd.put_any h1 u hu hn hl hV hll).mono ?_
  rintro e w' ⟨rfl, own', p', hH, hw, ho⟩
  have lr := block_lt h.hr
  have ls := block_lt h.hs
  refine ⟨rfl, ⟨⟨own', p', mb, hH, fun k e => ?_⟩, Nat.le_trans h.fl hw.size, (hw.block br lr fun e => (h2 br e).2.1 rfl).trans h.hr, (hw.block bs ls fun e => (h2 bs e).2.2 rfl).trans h.hs⟩, hw.toBelow (Below.refl _ w) (fun k e => (h2 k e).1) h.fl⟩
  rcases e with rfl | rfl | ⟨y, e⟩
  · exact h2 _ (.inl rfl)
  · exact h2 _ (.inr (.inl rfl))
  · rcases ho y k e with e | e
    · exact h2 _ (.inr (.inr ⟨y, e⟩))
    · exact ⟨Nat.le_trans h.fl e, by omega, by omega⟩
theorem Tryd.Hz.whole {B hb n br bs : Nat} {w : World} {F : ByteArray → Option Sh} (h : Tryd.Hz B w hb n F br bs) (hT : Tryd.Tb w) {u : ByteArray} (hu : u.size ≤ maxLen) {N : Nat} {S : List (List Cn)} (hF : Fd.keptOf F u = (N, S)) {l : List Cn} (hl : S.getLast? = some l) :
    Calls Tryd.prog 10 #[.pointer (some ⟨hb, 0, none⟩), .string u, .string ⟨#[]⟩] w fun e w' => ∃ V, e = .returned (.tuple #[V, .slice none 0 0, .bool true, .string (Fd.fmt N), .int .i64 0]) ∧ w'.ownsRow w.heap.size 28 3 V l.length (cnCells l) ∧ Below w.heap.size w w' := by
  obtain ⟨own, p, mb, h1, h2⟩ := h.ex
  have hF' : (F u).getD sh0 = (N, S) := hF
  have key := Tryd.since_whole h1 hT u hu ⟨#[]⟩ (.inl rfl)
  rw [hF'] at key
  refine key.mono ?_
  rintro e w' ⟨V, l', rfl, e2, hr, hb'⟩
  rw [hl] at e2
  cases e2
  exact ⟨V, rfl, hr, hb'⟩
theorem Tryd.Hz.part {B hb n br bs : Nat} {w : World} {F : ByteArray → Option Sh} (h : Tryd.Hz B w hb n F br bs) (hT : Tryd.Tb w) {u : ByteArray} (hu : u.size ≤ maxLen) {N : Nat} {S : List (List Cn)} (hF : Fd.keptOf F u = (N, S)) {l : List Cn} (hl : S.getLast? = some l) {s : ByteArray} {k : Nat} (hs : Fd.At s k) (h1 : N - 50 ≤ k) (h2 : k ≤ N) {t : List Cn} (ht : S[k - (N - 50)]? = some t) :
    Calls Tryd.prog 10 #[.pointer (some ⟨hb, 0, none⟩), .string u, .string s] w fun e w' => ∃ V G, e = .returned (.tuple #[V, G, .bool false, .string (Fd.fmt N), .int .i64 0]) ∧ w'.ownsRow w.heap.size 28 3 V (changed l t).length (cnCells (changed l t)) ∧ w'.ownsRow w.heap.size 9 1 G (goneL l t).length ((goneL l t).map Value.string) ∧ Below w.heap.size w w' := by
  obtain ⟨own, p, mb, k1, k2⟩ := h.ex
  have hF' : (F u).getD sh0 = (N, S) := hF
  have key := Tryd.since_part k1 hT u hu s hs (by rw [hF']; exact h1) (by rw [hF']; exact h2) (t := t) (by rw [hF']; exact ht)
  rw [hF'] at key
  refine key.mono ?_
  rintro e w' ⟨V, G, l', rfl, e2, hr, hr2, hb'⟩
  rw [hl] at e2
  cases e2
  exact ⟨V, G, rfl, hr, hr2, hb'⟩
theorem Tryd.Hz.wrong {B hb n br bs : Nat} {w : World} {F : ByteArray → Option Sh} (h : Tryd.Hz B w hb n F br bs) (hT : Tryd.Tb w) {u : ByteArray} (hu : u.size ≤ maxLen) {N : Nat} {S : List (List Cn)} (hF : Fd.keptOf F u = (N, S)) {s : ByteArray} (hs : s.size ≤ 281474976710656) (hne : s ≠ ⟨#[]⟩) (hno : ∀ k, Fd.At s k → N < k) :
    Calls Tryd.prog 10 #[.pointer (some ⟨hb, 0, none⟩), .string u, .string s] w fun e w' => e = .returned (.tuple #[.slice none 0 0, .slice none 0 0, .bool false, .string ⟨#[]⟩, .int .i64 200]) ∧ Below w.heap.size w w' := by
  obtain ⟨own, p, mb, k1, k2⟩ := h.ex
  have hF' : (F u).getD sh0 = (N, S) := hF
  exact Tryd.since_err k1 hT u hu s hs hne (by rw [hF']; exact hno)
end Go.Proofs
