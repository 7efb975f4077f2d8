/-
  JournalSpoilt: one byte turned is another sum; what is told of a spoilt disk; a row of numbers beside a journal; what comes behind the loop.
-/
import Derived.Test.YtkoojpaanpmgeaaEa
import Derived.Test.YtkoojpaanpmgeaaFc
import Derived.Test.YtkoojpaanpmgeaaKv
import Derived.Test.YtkoojpaanpmgeaaKj
namespace Go.Dk
theorem inv_mod (u p r M c : Nat) (h : p * r = M * c + 1) (hu : u < M) : (u * p % M) * r % M = u := by
  rw [Nat.mul_mod, Nat.mod_mod, ← Nat.mul_mod, Nat.mul_assoc, h, Nat.mul_add, Nat.mul_one, ← Nat.mul_assoc, Nat.mul_comm u M, Nat.mul_assoc, Nat.mul_add_mod, Nat.mod_eq_of_lt hu]
theorem mul_inj {u v : Nat} (hu : u < 4294967296) (hv : v < 4294967296) (h : u * 16777619 % 4294967296 = v * 16777619 % 4294967296) : u = v := by
  have hc : 16777619 * 899433627 = 4294967296 * 3513497 + 1 := by decide
  have h1 := inv_mod u 16777619 899433627 4294967296 3513497 hc hu
  have h2 := inv_mod v 16777619 899433627 4294967296 3513497 hc hv
  rw [h] at h1
  exact h1.symm.trans h2
theorem xor_lt {s : Nat} (hs : s < 4294967296) (x : UInt8) : s ^^^ x.toNat < 4294967296 :=
  Nat.xor_lt_two_pow (n := 32) hs (Nat.lt_of_lt_of_le x.toNat_lt (by decide))
theorem fnvB_lt (s : Nat) (x : UInt8) : fnvB s x < 4294967296 := Nat.mod_lt _ (by decide)
theorem fnvB_inj {s t : Nat} (hs : s < 4294967296) (ht : t < 4294967296) (x : UInt8) (h : fnvB s x = fnvB t x) : s = t := by
  have h1 := mul_inj (xor_lt hs x) (xor_lt ht x) h
  have h2 := congrArg (· ^^^ x.toNat) h1
  simpa [Nat.xor_assoc] using h2
theorem fnvB_ne {s : Nat} (hs : s < 4294967296) {x y : UInt8} (hxy : x ≠ y) : fnvB s x ≠ fnvB s y := fun h => by
  have h1 := mul_inj (xor_lt hs x) (xor_lt hs y) h
  have h2 := congrArg (s ^^^ ·) h1
  simp only [← Nat.xor_assoc, Nat.xor_self, Nat.zero_xor] at h2
  exact hxy (UInt8.toNat_inj.1 h2)
theorem fold_ne : ∀ (b : List UInt8) {s t : Nat}, s < 4294967296 → t < 4294967296 → s ≠ t → b.foldl fnvB s ≠ b.foldl fnvB t
  | [], _, _, _, _, h => h
  | x :: b, _, _, hs, ht, h => fold_ne b (fnvB_lt _ x) (fnvB_lt _ x) fun e => h (fnvB_inj hs ht x e)
/-- One byte turned. -/
theorem fnv_turn (a b : List UInt8) {x y : UInt8} (h : x ≠ y) : fnv (a ++ x :: b) ≠ fnv (a ++ y :: b) := by
  unfold fnv
  rw [List.foldl_append, List.foldl_append, List.foldl_cons, List.foldl_cons]
  exact fold_ne b (fnvB_lt _ x) (fnvB_lt _ y) (fnvB_ne (fnv_lt a) h)
end Go.Dk
namespace Go.Dk
theorem cut_stop {row : List UInt8} : ∀ (rs : List (List UInt8)) (p : Nat), (∀ d ∈ rs, 0 < d.length ∧ d.length ≤ 6000) → p + (rs.flatMap recB).length ≤ row.length → (∀ q, q < (rs.flatMap recB).length → row[p + q]? = (rs.flatMap recB)[q]?) → recAt row (p + (rs.flatMap recB).length) = none → cut row p = (rs, p + (rs.flatMap recB).length)
  | [], p, _, _, _, hz => by
    simp only [List.flatMap_nil, List.length_nil, Nat.add_zero] at hz ⊢
    exact cut_none hz
  | d :: rs, p, hr, hl, hb, hz => by
    have hd := hr d (by simp)
    have hrl := recB_len d
    simp only [List.flatMap_cons, List.length_append] at hl hb hz ⊢
    have h1 : recAt row p = some d := recAt_of (row := row) (p := p) (d := d) hd.1 hd.2 (by omega) (fun q hq => by rw [hb q (by omega), List.getElem?_append_left hq])
    have ih := cut_stop (row := row) rs (p + (7 + d.length)) (fun e he => hr e (by simp [he])) (by omega) (fun q hq => by
      rw [Nat.add_assoc, hb _ (by rw [hrl]; omega), List.getElem?_append_right (by rw [hrl]; omega), hrl, show 7 + d.length + q - (7 + d.length) = q by omega]) (by
      rw [hrl] at hz
      rw [Nat.add_assoc]
      exact hz)
    rw [cut_some h1, show p + 7 + d.length = p + (7 + d.length) by omega, ih, hrl]
    simp only [Nat.add_assoc]
theorem fnv_set {d : List UInt8} {t : Nat} {x y : UInt8} (hx : d[t]? = some x) (h : x ≠ y) : fnv (d.set t y) ≠ fnv d := by
  obtain ⟨ht, hx'⟩ := List.getElem?_eq_some_iff.1 hx
  have e1 : d = d.take t ++ x :: d.drop (t + 1) := by
    rw [← hx', List.getElem_cons_drop ht, List.take_append_drop]
  have e2 : d.set t y = d.take t ++ y :: d.drop (t + 1) := by
    rw [List.set_eq_take_append_cons_drop, if_pos ht]
  rw [e2]
  conv => rhs; rw [e1]
  exact fnv_turn _ _ (Ne.symm h)
/-- One byte of a record is turned: its flag, its sum, its data. -/
theorem recAt_spoilt {row : List UInt8} {p t : Nat} {d : List UInt8} {x y : UInt8} (_h0 : 0 < d.length) (h6 : d.length ≤ 6000) (hl : p + (7 + d.length) ≤ row.length) (hb : ∀ q, q < (recB d).length → row[p + q]? = ((recB d).set t y)[q]?) (hx : (recB d)[t]? = some x) (hxy : x ≠ y) (ht : t = 0 ∨ 3 ≤ t) : recAt row p = none := by
  have hrl := recB_len d
  have htl : t < 7 + d.length := by have := (List.getElem?_eq_some_iff.1 hx).1; omega
  have hRl : ((recB d).set t y).length = 7 + d.length := by rw [List.length_set, hrl]
  have hb' : ∀ q, q < ((recB d).set t y).length → row[p + q]? = ((recB d).set t y)[q]? := fun q hq => hb q (by omega)
  have p2 : (256 : Nat) ^ 2 = 65536 := by decide
  have p4 : (256 : Nat) ^ 4 = 4294967296 := by decide
  have hfl := fnv_lt d
  have n1 : num (le 2 d.length) = d.length := by rw [num_le]; exact Nat.mod_eq_of_lt (by omega)
  have n3 : num (le 4 (fnv d)) = fnv d := by rw [num_le]; exact Nat.mod_eq_of_lt (by omega)
  have hf : row[p]? = ((recB d).set t y)[0]? := by have := hb' 0 (by omega); rwa [Nat.add_zero] at this
  unfold recAt
  rcases ht with rfl | ht
  · rw [if_pos]
    right
    rw [hf]
    have : x = 1 := by simpa [recB] using hx.symm
    subst this
    simp [recB]
    exact fun e => hxy e.symm
  · have e1 : (row.drop (p + 1)).take 2 = le 2 d.length := by
      rw [sub_eq (r := (recB d).set t y) (by omega) (by omega) hb', List.drop_set, if_neg (by omega), List.take_set, List.set_eq_of_length_le (by rw [List.length_take]; omega)]
      rfl
    rw [e1, n1]
    split
    · rfl
    · split
      · rfl
      · rw [if_pos]
        by_cases h7 : t < 7
        · have e7 : (row.drop (p + 7)).take d.length = d := by
            rw [sub_eq (r := (recB d).set t y) (by omega) (by omega) hb', List.drop_set, if_pos h7]
            have : (recB d).drop 7 = d := rfl
            rw [this, List.take_length]
          have e3 : (row.drop (p + 3)).take 4 = (le 4 (fnv d)).set (t - 3) y := by
            rw [sub_eq (r := (recB d).set t y) (by omega) (by omega) hb', List.drop_set, if_neg (by omega), List.take_set]
            rfl
          rw [e7, e3]
          intro e
          have h1 := le_num ((le 4 (fnv d)).set (t - 3) y)
          rw [List.length_set, le_len, ← e] at h1
          have h2 : (le 4 (fnv d))[t - 3]? = some x := by
            have : (recB d)[3 + (t - 3)]? = some x := by rw [show 3 + (t - 3) = t by omega]; exact hx
            have h3 : ((recB d).drop 3)[t - 3]? = some x := by rw [List.getElem?_drop]; exact this
            have h4 : (recB d).drop 3 = le 4 (fnv d) ++ d := rfl
            rw [h4, List.getElem?_append_left (by rw [le_len]; omega)] at h3
            exact h3
          rw [h1, List.getElem?_set, if_pos rfl, if_pos (by rw [le_len]; omega)] at h2
          exact hxy (Option.some.inj h2).symm
        · have e3 : (row.drop (p + 3)).take 4 = le 4 (fnv d) := by
            rw [sub_eq (r := (recB d).set t y) (by omega) (by omega) hb', List.drop_set, if_neg (by omega), List.take_set, List.set_eq_of_length_le (by rw [List.length_take]; omega)]
            rfl
          have e7 : (row.drop (p + 7)).take d.length = d.set (t - 7) y := by
            rw [sub_eq (r := (recB d).set t y) (by omega) (by omega) hb', List.drop_set, if_neg (by omega)]
            have : (recB d).drop 7 = d := rfl
            rw [this, List.take_of_length_le (by rw [List.length_set]; omega)]
          rw [e3, e7, n3]
          refine fnv_set ?_ hxy
          have : (recB d)[7 + (t - 7)]? = some x := by rw [show 7 + (t - 7) = t by omega]; exact hx
          have h3 : ((recB d).drop 7)[t - 7]? = some x := by rw [List.getElem?_drop]; exact this
          exact h3
end Go.Dk
namespace Go.Dk
/-- One byte of the k-th record is turned. -/
structure Spoilt (s s' : DS) (a : Nat) (snap : List UInt8) (recs : List (List UInt8)) (k t : Nat) (y : UInt8) : Prop where
  n : s'.n = s.n
  len : s'.view.length = s.view.length
  get : ∀ j, s'.view[j]? = if j = abeg s.n a + (body snap (recs.take k)).length + t then some y else s.view[j]?
theorem headS_of {v : List UInt8} {n k : Nat} {H : Hd} (h : headIn v n k = some H) : headS (blk v k) k = some H := by
  unfold headIn at h
  split at h
  · cases h
  · rename_i h' e
    split at h
    · cases h
    · split at h
      · cases h
      · injection h with h; rw [← h]; exact e
theorem headIn_same {v v' : List UInt8} {n k : Nat} {H : Hd} (h : headIn v n k = some H) (hb : blk v' k = blk v k) (ha : (area v' n H.side).take H.size = (area v n H.side).take H.size) : headIn v' n k = some H := by
  have h1 := headS_of h
  unfold headIn at h ⊢
  rw [hb]
  rw [h1] at h ⊢
  simp only at h ⊢
  rw [ha]
  exact h
theorem Holds.tells {s s' : DS} {g a : Nat} {snap : List UInt8} {recs : List (List UInt8)} (h : Holds s g a snap recs) {k t : Nat} {y x : UInt8} {d : List UInt8} (hd : recs[k]? = some d) (hs : Spoilt s s' a snap recs k t y) (hx : (recB d)[t]? = some x) (hxy : x ≠ y) (ht : t = 0 ∨ 3 ≤ t) : Tells s' snap (recs.take k) := by
  have hn2 : 2 ≤ s.n := by have := h.n8; omega
  have hbe := abeg_le hn2 h.a1
  have hkl := (List.getElem?_eq_some_iff.1 hd).1
  have hdd := h.rl d (List.mem_of_getElem? hd)
  have htl : t < 7 + d.length := by have := (List.getElem?_eq_some_iff.1 hx).1; rw [recB_len] at this; exact this
  obtain ⟨P, hP⟩ : ∃ P, P = (body snap (recs.take k)).length := ⟨_, rfl⟩
  have hget := hs.get
  rw [← hP] at hget
  have hP2 : P = snap.length + ((recs.take k).flatMap recB).length := by rw [hP]; simp [body]
  have hsplit : recs = recs.take k ++ d :: recs.drop (k + 1) := by
    have := (List.getElem?_eq_some_iff.1 hd).2
    rw [← this, List.getElem_cons_drop hkl, List.take_append_drop]
  have hbody : body snap recs = snap ++ ((recs.take k).flatMap recB ++ (recB d ++ (recs.drop (k + 1)).flatMap recB)) := by
    unfold body
    conv => lhs; rw [hsplit]
    simp
  have hbl : P + (7 + d.length) ≤ (body snap recs).length := by
    rw [hbody]
    simp only [List.length_append, recB_len]
    omega
  have hsm := h.small
  have h2b : 128 ≤ abeg s.n a := by unfold abeg; omega
  have hblk : ∀ i, i ≤ 1 → blk s'.view i = blk s.view i := fun i hi => by
    apply List.ext_getElem?
    intro j
    rw [get_blk, get_blk]
    split
    · rw [hget, if_neg (by omega)]
    · rfl
  have hlen : s'.view.length = 64 * s'.n := by rw [hs.len, hs.n]; exact h.len
  have hsn : (area s'.view s.n a).take snap.length = snap := by
    rw [← h.snap]
    apply List.ext_getElem?
    intro j
    rw [h.snap, List.getElem?_take]
    have h1 := congrArg (fun l => l[j]?) h.snap
    simp only [List.getElem?_take] at h1
    split
    · rename_i hj
      rw [if_pos hj] at h1
      rw [← h1, area_get, area_get]
      split
      · rw [hget, if_neg (by omega)]
      · rfl
    · rename_i hj
      rw [if_neg hj] at h1
      exact h1
  have hoth : area s'.view s.n (1 - a) = area s.view s.n (1 - a) := by
    apply List.ext_getElem?
    intro j
    rw [area_get, area_get]
    split
    · rename_i hj
      have := h.a1
      rw [hget, if_neg]
      unfold abeg
      rcases (show a = 0 ∨ a = 1 by omega) with rfl | rfl
      · simp only [Nat.sub_zero, Nat.one_mul, Nat.zero_mul, Nat.add_zero]; omega
      · simp only [Nat.sub_self, Nat.one_mul, Nat.zero_mul, Nat.add_zero]; omega
    · rfl
  have hsame : ∀ i, i ≤ 1 → ∀ H, headIn s.view s.n i = some H → headIn s'.view s'.n i = some H := fun i hi H e => by
    rw [hs.n]
    refine headIn_same e (hblk i hi) ?_
    rcases (show i = g % 2 ∨ i = 1 - g % 2 by omega) with rfl | rfl
    · rw [h.right] at e
      injection e with e
      subst e
      show (area s'.view s.n a).take snap.length = (area s.view s.n a).take snap.length
      rw [hsn, h.snap]
    · rcases h.other with h1 | ⟨H', h1, _, h3⟩
      · have h2 := headS_of e
        unfold headS at h2
        rw [h1, if_pos (by right; left; rw [of_zero.2]; omega)] at h2
        cases h2
      · rw [h1] at e
        injection e with e
        subst e
        rw [h3, hoth]
  have hlook : ∀ i, i ≤ 1 → ∀ o, Go.Proofs.Dk.Looks s i o → Go.Proofs.Dk.Looks s' i o := fun i hi o hl => by
    unfold Go.Proofs.Dk.Looks at hl ⊢
    rw [hblk i hi]
    rcases hl with hl | ⟨H, h1, h2⟩
    · exact .inl hl
    · exact .inr ⟨H, h1, hsame i hi H h2⟩
  obtain ⟨u, v, hu, hv, hH⟩ := h.looks
  have hal : (area s'.view s.n a).length = 64 * half s.n := by
    unfold area
    rw [List.length_take, List.length_drop, hs.len, h.len]
    unfold abeg at hbe
    omega
  have hcut : Go.Dk.cut (area s'.view s.n a) snap.length = (recs.take k, snap.length + ((recs.take k).flatMap recB).length) := by
    refine cut_stop (recs.take k) snap.length (fun e he => h.rl e (List.mem_of_mem_take he)) (by omega) (fun q hq => ?_) ?_
    · rw [area_get, if_pos (by omega), hget, if_neg (by omega), h.bytes _ (by omega), hbody, List.getElem?_append_right (by omega), show snap.length + q - snap.length = q by omega, List.getElem?_append_left hq]
    · refine recAt_spoilt (t := t) (d := d) (x := x) (y := y) hdd.1 hdd.2 (by omega) (fun q hq => ?_) hx hxy ht
      rw [recB_len] at hq
      rw [area_get, if_pos (by omega), hget, List.getElem?_set]
      by_cases hqt : q = t
      · subst hqt
        rw [if_pos (by omega), if_pos rfl, if_pos (by rw [recB_len]; omega)]
      · rw [if_neg (by omega), if_neg (by omega), h.bytes _ (by omega), hbody, List.getElem?_append_right (by omega), show snap.length + ((recs.take k).flatMap recB).length + q - snap.length = ((recs.take k).flatMap recB).length + q by omega, List.getElem?_append_right (by omega), show ((recs.take k).flatMap recB).length + q - ((recs.take k).flatMap recB).length = q by omega, List.getElem?_append_left (by rw [recB_len]; omega)]
  have hfew := h.few
  exact ⟨⟨u, v, _, _, hlook 0 (by omega) u hu, hlook 1 (by omega) v hv, hH, h.a1, rfl, by rw [hs.n]; omega, by rw [hs.n]; exact hsn, by rw [hs.n]; exact hcut⟩, hlen, by rw [hs.n]; exact h.n8, by rw [hs.n]; exact h.n4, by rw [List.length_take]; omega⟩
end Go.Dk
namespace Go.Proofs
open Go.RowKit Go.Dk
/-- Lt, and a row of numbers of its own. -/
structure Try.Lq (B : Nat) (w0 w : World) (n y x q g a : Nat) (snap : List UInt8) (recs : List (List UInt8)) (bs : Dk.Bxs) (ss : Dk.Sts) (av : Value) (m : List Nat) : Prop where
  ex : ∃ own s, Try.JD w own y x s q g a snap recs ∧ (s.n = n ∧ s.falls + q ≤ 1000000) ∧ (∀ k, own k → B ≤ k) ∧ (∀ b ∈ bs, Try.Bx w (fun k => ¬ own k ∧ k ≠ y ∧ B ≤ k) b.1 b.2.1 b.2.2) ∧ (∀ v ∈ ss, Try.Sta w (fun k => ¬ own k ∧ k ≠ y ∧ B ≤ k) v.1 v.2.1 v.2.2) ∧ w.ownsRow B 3 1 av m.length (Dk.ints m) ∧ ∀ k, av.ownBlock = some k → ¬ own k ∧ k ≠ y
  yb : B ≤ y
  bel : Below B w0 w
section
variable {B : Nat} {w0 w : World} {n y x q g a : Nat} {snap : List UInt8} {recs : List (List UInt8)} {bs : Dk.Bxs} {ss : Dk.Sts} {av : Value} {m : List Nat}
theorem Try.Lq.lt (h : Try.Lq B w0 w n y x q g a snap recs bs ss av m) : Try.Lt B w0 w n y x q g a snap recs bs ss := by
  obtain ⟨own, s, h1, h2, h3, h4, h5, _⟩ := h.ex
  exact ⟨⟨own, s, h1, h2, h3, h4, h5⟩, h.yb, h.bel⟩
theorem Try.Lt.lq (h : Try.Lt B w0 w n y x q g a snap recs bs ss) : Try.Lq B w0 w n y x q g a snap recs bs ss (.slice none 0 0) [] := by
  obtain ⟨own, s, h1, h2, h3, h4, h5⟩ := h.ex
  exact ⟨⟨own, s, h1, h2, h3, h4, h5, World.ownsRow_nil _ _ _ _, fun k e => by cases e⟩, h.yb, h.bel⟩
theorem Try.Lq.below {w' : World} (h : Try.Lq B w0 w n y x q g a snap recs bs ss av m) (hb : Below w.heap.size w w') : Try.Lq B w0 w' n y x q g a snap recs bs ss av m := by
  have h' := h.lt.below hb
  obtain ⟨own, s, h1, h2, h3, h4, h5, h6, h7⟩ := h.ex
  exact ⟨⟨own, s, h1.below hb, h2, h3, fun b e => (h4 b e).mono fun k hk hp => ⟨hb.block k hk, hp⟩, fun v e => (h5 v e).below hb, Dk.row_heap h6 fun k e => hb.block k (h6.lt k e).2, h7⟩, h.yb, h'.bel⟩
theorem Try.Lq.less {q' : Nat} (h : Try.Lq B w0 w n y x q g a snap recs bs ss av m) (hq : q' ≤ q) : Try.Lq B w0 w n y x q' g a snap recs bs ss av m := by
  obtain ⟨own, s, h1, ⟨h2, h2f⟩, h3⟩ := h.ex
  exact ⟨⟨own, s, ⟨h1.dsk, h1.jn, h1.ny, h1.ho, h1.can.mono hq⟩, ⟨h2, by omega⟩, h3⟩, h.yb, h.bel⟩
theorem Try.Lq.full (h : Try.Lq B w0 w n y x q g a snap recs bs ss av m) (ad : Option Addr) (L cap : Nat) (hL : L < 1000000000000000) (hf : Dk.fits n (body snap recs).length L = false) :
    Calls Try.prog 11 #[.pointer (some ⟨y, 0, none⟩), .slice ad L cap] w fun r w' => r = .returned (.int .i64 (if L = 0 ∨ 6000 < L then 52 else 51)) ∧ Try.Lq B w0 w' n y x q g a snap recs bs ss av m := by
  obtain ⟨own, s, h1, ⟨h2, h2f⟩, _⟩ := h.ex
  subst h2
  exact (h1.full ad L cap hL hf).mono fun r w' ⟨e, hb⟩ => ⟨e, h.below hb⟩
theorem Try.Lq.append (h : Try.Lq B w0 w n y x (q + 3000) g a snap recs bs ss av m) (v : Value) (d : List UInt8) (hv : Dk.Src w v d) (hf : Dk.fits n (body snap recs).length d.length = true) :
    Calls Try.prog 11 #[.pointer (some ⟨y, 0, none⟩), v] w fun r w' => r = .returned (.int .i64 0) ∧ Try.Lq B w0 w' n y x q g a snap (recs ++ [d]) bs ss av m := by
  obtain ⟨own, s, h1, ⟨h2, h2f⟩, h3, h4, h5, h6, h7⟩ := h.ex
  subst h2
  have hsz := h.lt.size
  refine (h1.append v d hv hf).mono fun r w' ⟨e, hj⟩ => ⟨e, ?_⟩
  obtain ⟨own', s', j1, j2, j2f, j3⟩ := hj.ex
  have hwo := hj.wo
  have key : ∀ k, k < w.heap.size → (¬ own k ∧ k ≠ y ∧ B ≤ k) → w'.heap[k]? = w.heap[k]? ∧ (¬ own' k ∧ k ≠ y ∧ B ≤ k) := fun k hk hp =>
    ⟨hwo.block k hk (fun e => by rcases e with e | e; exact hp.1 e; exact hp.2.1 e), fun e => by rcases j3 k e with e1 | e1; exact hp.1 e1; omega, hp.2⟩
  have krow : ∀ k, av.ownBlock = some k → k < w.heap.size ∧ (¬ own k ∧ k ≠ y ∧ B ≤ k) := fun k e => ⟨(h6.lt k e).2, (h7 k e).1, (h7 k e).2, (h6.lt k e).1⟩
  refine ⟨⟨own', s', j1, ⟨j2, by omega⟩, fun k e => ?_, fun b e => (h4 b e).mono key, fun v e => (h5 v e).mono key, Dk.row_heap h6 fun k e => (key k (krow k e).1 (krow k e).2).1, fun k e => ⟨(key k (krow k e).1 (krow k e).2).2.1, (h7 k e).2⟩⟩, h.yb, h.bel.trans (hwo.bel (fun k e => ?_) (by omega))⟩
  · rcases j3 k e with e1 | e1
    · exact h3 k e1
    · omega
  · rcases e with e1 | e1
    · exact h3 k e1
    · rw [e1]; exact h.yb
theorem Try.Lq.with {v : Value} {ts : List UInt8} {tr : List (List UInt8)} (h : Try.Lq B w0 w n y x q g a snap recs bs ((v, ts, tr) :: ss) av m) (hl : tr.length < 1000000) (d : List UInt8) :
    Calls Try.prog 12 #[v, .string ⟨d.toArray⟩] w fun r w' => ∃ ad cap, r = .returned (.agg #[.string ⟨ts.toArray⟩, .slice ad (tr.length + 1) cap]) ∧ Try.Lq B w0 w' n y x q g a snap recs bs ((.agg #[.string ⟨ts.toArray⟩, .slice ad (tr.length + 1) cap], ts, tr ++ [d]) :: ss) av m := by
  obtain ⟨own, s, h1, h2, h3, h4, h5, h6, h7⟩ := h.ex
  refine (Try.with_any hl (h5 (v, ts, tr) List.mem_cons_self) d).mono ?_
  rintro r w' ⟨v', rfl, hst, hb⟩
  have hst' := hst
  obtain ⟨rv, rfl, hr, _⟩ := hst'
  obtain ⟨ad, cap, rfl, -⟩ := Dk.row_form hr
  have h' := h.below hb
  have hsz := h.lt.size
  rw [List.length_append, List.length_singleton] at hst ⊢
  refine ⟨ad, cap, rfl, ⟨own, s, h1.below hb, h2, h3, fun b e => (h4 b e).mono fun k hk hp => ⟨hb.block k hk, hp⟩, fun u e => ?_, Dk.row_heap h6 fun k e => hb.block k (h6.lt k e).2, h7⟩, h.yb, h'.bel⟩
  rcases List.mem_cons.1 e with rfl | e
  · refine hst.mono fun k hk hp => ⟨rfl, fun e1 => ?_, fun e1 => ?_, by omega⟩
    · have := h1.dsk.lt k e1; omega
    · have := Dk.block_lt h1.jn; omega
  · exact (h5 u (List.mem_cons_of_mem _ e)).below hb
theorem Try.Lq.take {b : Nat} {ts : List UInt8} {tr : List (List UInt8)} (h : Try.Lq B w0 w n y x q g a snap recs bs ss av m) (hb : (b, ts, tr) ∈ bs) :
    ∃ ad cap, w.heap[b]? = some (.cells #[.string ⟨ts.toArray⟩, .slice ad tr.length cap] 28 (0, 0)) ∧ Try.Lq B w0 w n y x q g a snap recs bs ((.agg #[.string ⟨ts.toArray⟩, .slice ad tr.length cap], ts, tr) :: ss) av m := by
  obtain ⟨own, s, h1, h2, h3, h4, h5, h6⟩ := h.ex
  obtain ⟨rv, k0, k1, k2, k3⟩ := h4 _ hb
  obtain ⟨ad, cap, rfl, -⟩ := Dk.row_form k2
  refine ⟨ad, cap, k0, ⟨own, s, h1, h2, h3, h4, fun v e => ?_, h6⟩, h.yb, h.bel⟩
  rcases List.mem_cons.1 e with rfl | e
  · exact ⟨_, rfl, k2, k3⟩
  · exact h5 v e
/-- A state is put into the one box that there is. -/
theorem Try.Lq.put {b : Nat} {ts ts0 : List UInt8} {tr tr0 : List (List UInt8)} {rv : Value} (h : Try.Lq B w0 w n y x q g a snap recs [(b, ts0, tr0)] [(.agg #[.string ⟨ts.toArray⟩, rv], ts, tr)] av m) :
    Try.Lq B w0 ((w.setCell ⟨b, 0, none⟩ (.string ⟨ts.toArray⟩)).setCell ⟨b, 1, none⟩ rv) n y x q g a snap recs [(b, ts, tr)] [] av m := by
  have h' := h.lt.put (b := b) (bs' := [(b, ts, tr)]) (List.mem_singleton.2 rfl) (fun c hc => .inl (List.mem_singleton.1 hc))
  obtain ⟨own, s, h1, h2, h3, h4, h5, h6, h7⟩ := h.ex
  have hsz := h.lt.size
  obtain ⟨rv0, k0, k1, k2, k3⟩ := h4 _ (List.mem_singleton.2 rfl)
  have hne : ∀ {T : TypeId} {lo : Nat} {v : Value} {l : Nat} {xs : List Value}, 28 ≠ T → w.ownsRow lo T 1 v l xs → ∀ k, v.ownBlock = some k → k ≠ b := fun {T lo v l xs} hT hr k e => by
    rintro rfl
    rcases hr.2 with ⟨e1, _⟩ | ⟨g', cap, cur, e1, _, e2, _⟩
    · rw [e1] at e; cases e
    · rw [e1] at e
      injection e with e
      simp at e
      subst e
      rw [k0] at e2
      injection e2 with e2
      injection e2 with _ e3 _
      exact absurd e3 hT
  have hwo : Dk.Wo (fun k => k = b) w ((w.setCell ⟨b, 0, none⟩ (.string ⟨ts.toArray⟩)).setCell ⟨b, 1, none⟩ rv) := (((Dk.Wo.refl (fun k => k = b) w).setCell b 0 _ (.inl rfl)).setCell b 1 _ (.inl rfl))
  obtain ⟨rv', e1, m2, m3⟩ := h5 _ (List.mem_singleton.2 rfl)
  cases e1
  refine ⟨⟨own, s, ⟨h1.dsk.keep (fun k e => hwo.block k (h1.dsk.lt k e) (fun e1 => k1.1 (e1 ▸ e))) hwo.size, h1.jn.wo hwo (fun e => k1.2.1 e.symm), h1.ny, h1.ho, h1.can⟩, h2, h3, fun c e => ?_, fun v e => absurd e (by simp), Dk.row_heap h6 fun k e => hwo.block k (h6.lt k e).2 (hne (by decide) h6 k e), h7⟩, h.yb, h'.bel⟩
  rw [List.mem_singleton] at e
  subst e
  exact ⟨rv, Dk.two_cells k0 _ _, k1, Dk.row_heap m2 fun k e => hwo.block k (m2.lt k e).2 (hne (by decide) m2 k e), m3⟩
/-- The row has a number more. -/
theorem Try.Lq.more {w' : World} {o : Obj} {g1 cap1 i : Nat} (h : Try.Lq B w0 w n y x q g a snap recs bs ss av m) (hg : (w.alloc o).grownBy w' av.ownBlock) (ho : w'.ownsRow B 3 1 (.slice (some ⟨g1, 0, none⟩) (m.length + 1) cap1) (m.length + 1) (Dk.ints m ++ [.int .i64 i])) (hat : av.ownBlock = some g1 ∨ g1 = w.heap.size + 1) :
    Try.Lq B w0 w' n y x q g a snap recs bs [] (.slice (some ⟨g1, 0, none⟩) (m.length + 1) cap1) (m ++ [i]) := by
  obtain ⟨own, s, h1, h2, h3, h4, h5, h6, h7⟩ := h.ex
  have hsz := h.lt.size
  have hs1 : w.heap.size < w'.heap.size := by have := hg.size; simp at this; omega
  have hblk : ∀ k, k < w.heap.size → av.ownBlock ≠ some k → w'.heap[k]? = w.heap[k]? := fun k hk e => (hg.block k (by simp; omega) (fun e1 => e e1.symm)).trans (Below.heap_alloc w o k hk)
  have hown : ∀ k, own k → av.ownBlock ≠ some k := fun k e e1 => (h7 k e1).1 e
  have hy : av.ownBlock ≠ some y := fun e1 => (h7 y e1).2 rfl
  have hbo : ∀ (b : Nat) {C : Array Value}, w.heap[b]? = some (.cells C 28 (0, 0)) → av.ownBlock ≠ some b := fun b {C} hC e1 => by
    rcases h6.2 with ⟨u1, _⟩ | ⟨g'', cp', cur', u1, _, u2, _⟩
    · rw [u1] at e1; cases e1
    · rw [u1] at e1
      injection e1 with e1
      simp at e1
      subst e1
      rw [hC] at u2
      injection u2 with u2
      injection u2 with _ u3 _
      exact absurd u3 (by decide)
  have hrow : ∀ {v : Value} {l : Nat} {xs : List Value}, w.ownsRow 0 9 1 v l xs → ∀ k, v.ownBlock = some k → av.ownBlock ≠ some k := fun {v l xs} hr k e e1 => by
    rcases hr.2 with ⟨z1, _⟩ | ⟨g', cp, cur, z1, _, z2, _⟩
    · rw [z1] at e; cases e
    · rw [z1] at e
      injection e with e
      simp at e
      subst e
      rcases h6.2 with ⟨u1, _⟩ | ⟨g'', cp', cur', u1, _, u2, _⟩
      · rw [u1] at e1; cases e1
      · rw [u1] at e1
        injection e1 with e1
        simp at e1
        subst e1
        rw [z2] at u2
        injection u2 with u2
        injection u2 with _ u3 _
        exact absurd u3 (by decide)
  refine ⟨⟨own, s, ⟨h1.dsk.keep (fun k e => hblk k (h1.dsk.lt k e) (hown k e)) (Nat.le_of_lt hs1), (hblk y (Dk.block_lt h1.jn) hy).trans h1.jn, h1.ny, h1.ho, h1.can⟩, h2, h3, fun b e => ?_, fun v e => absurd e (by simp), ?_, fun k e => ?_⟩, h.yb, ?_⟩
  · obtain ⟨rv, k0, k1, k2, k3⟩ := h4 b e
    exact ⟨rv, (hblk b.1 (Dk.block_lt k0) (fun e1 => hbo b.1 k0 e1)).trans k0, k1, Dk.row_heap k2 fun k e => hblk k (k2.lt k e).2 (hrow k2 k e), k3⟩
  · have : Dk.ints (m ++ [i]) = Dk.ints m ++ [.int .i64 i] := by simp [Dk.ints]
    rw [this, List.length_append, List.length_singleton]
    exact ho
  · have e2 : g1 = k := by simpa [Value.ownBlock] using e
    subst e2
    rcases hat with e1 | e1
    · exact h7 _ e1
    · exact ⟨fun e2 => by have := h1.dsk.lt _ e2; omega, by have := Dk.block_lt h1.jn; omega⟩
  · refine h.bel.trans (((Below.refl B w).alloc (by omega) o).grown hg (by simp; omega) (fun k hk => (h6.lt k hk).1))
end
end Go.Proofs
namespace Go.Dk
/-- Where records begin. -/
def starts : Nat → List (List UInt8) → List Nat
  | _, [] => []
  | p, d :: r => p :: starts (p + 7 + d.length) r
theorem starts_len : ∀ (l : List (List UInt8)) (p : Nat), (starts p l).length = l.length
  | [], _ => rfl
  | d :: r, p => by simp only [starts, List.length_cons, starts_len r]
theorem starts_snoc : ∀ (l : List (List UInt8)) (p : Nat) (d : List UInt8), starts p (l ++ [d]) = starts p l ++ [p + (l.flatMap recB).length]
  | [], p, d => by simp [starts]
  | e :: r, p, d => by
    have := recB_len e
    simp only [List.cons_append, starts, starts_snoc r, List.flatMap_cons, List.length_append, recB_len]
    rw [show p + 7 + e.length + (r.flatMap recB).length = p + (7 + e.length + (r.flatMap recB).length) by omega]
theorem starts_get : ∀ (l : List (List UInt8)) (p k : Nat), k < l.length → (starts p l)[k]? = some (p + ((l.take k).flatMap recB).length)
  | [], _, _, h => by simp at h
  | e :: r, p, 0, _ => by simp [starts]
  | e :: r, p, k + 1, h => by
    have := recB_len e
    simp only [List.length_cons] at h
    simp only [starts, List.getElem?_cons_succ, starts_get r _ k (by omega), List.take_succ_cons, List.flatMap_cons, List.length_append, recB_len]
    congr 1
    omega
theorem body_nil (l : List (List UInt8)) : (body [] l).length = (l.flatMap recB).length := by simp [body]
theorem body_snoc0 (l : List (List UInt8)) (d : List UInt8) : (body [] (l ++ [d])).length = (body [] l).length + 7 + d.length := by simp [body, recB_len]; omega
theorem body_at {snap : List UInt8} {recs : List (List UInt8)} {k t : Nat} {d : List UInt8} (hd : recs[k]? = some d) (ht : t < 7 + d.length) : (body snap recs)[(body snap (recs.take k)).length + t]? = (recB d)[t]? ∧ (body snap (recs.take k)).length + 7 + d.length ≤ (body snap recs).length := by
  have hkl := (List.getElem?_eq_some_iff.1 hd).1
  have hsplit : recs = recs.take k ++ d :: recs.drop (k + 1) := by
    have := (List.getElem?_eq_some_iff.1 hd).2
    rw [← this, List.getElem_cons_drop hkl, List.take_append_drop]
  have hbody : body snap recs = body snap (recs.take k) ++ (recB d ++ (recs.drop (k + 1)).flatMap recB) := by
    unfold body
    conv => lhs; rw [hsplit]
    simp
  constructor
  · rw [hbody, List.getElem?_append_right (by omega), show (body snap (recs.take k)).length + t - (body snap (recs.take k)).length = t by omega, List.getElem?_append_left (by rw [recB_len]; exact ht)]
  · rw [hbody]
    simp only [List.length_append, recB_len]
    omega
theorem spoilt_of {s : DS} {g : Nat} {snap : List UInt8} {recs : List (List UInt8)} (h : Holds s g 0 snap recs) {k t p : Nat} {y : UInt8} (hp : p = (body snap (recs.take k)).length + t) (hlt : 2 + p / 64 < s.n) : Spoilt s (s.op (.wr (2 + p / 64) ((blk s.view (2 + p / 64)).set (p % 64) y))).1 0 snap recs k t y := by
  have hbl := blk_length h.len hlt
  have hv := op_wr_view h.fs (2 + p / 64) ((blk s.view (2 + p / 64)).set (p % 64) y)
  have hsl : ((blk s.view (2 + p / 64)).set (p % 64) y).length = 64 := by rw [List.length_set]; exact hbl
  rw [pad64 hsl] at hv
  refine ⟨DS.op_n _ _, ?_, fun j => ?_⟩
  · rw [hv, length_put (by rw [hsl, h.len]; omega)]
  · rw [hv, get_put (by rw [hsl, h.len]; omega), hsl, List.getElem?_set, get_blk]
    have ha : abeg s.n 0 = 128 := by unfold abeg; omega
    rw [ha, Nat.add_assoc, ← hp]
    by_cases h1 : j < 64 * (2 + p / 64)
    · rw [if_pos h1, if_neg (by omega)]
    · rw [if_neg h1]
      by_cases h2 : j < 64 * (2 + p / 64) + 64
      · rw [if_pos h2]
        by_cases h3 : j = 128 + p
        · rw [if_pos (by omega), if_pos (by rw [hbl]; omega), if_pos h3]
        · rw [if_neg (by omega), if_pos (by omega), if_neg h3, show 64 * (2 + p / 64) + (j - 64 * (2 + p / 64)) = j by omega]
      · rw [if_neg h2, if_neg (by omega)]
/-- The byte that is turned. -/
theorem byte_there {s : DS} {g : Nat} {snap : List UInt8} {recs : List (List UInt8)} (h : Holds s g 0 snap recs) {k t p : Nat} {d : List UInt8} (hd : recs[k]? = some d) (ht : t < 7 + d.length) (hp : p = (body snap (recs.take k)).length + t) : 2 + p / 64 < s.n ∧ p < 64 * half s.n ∧ ∃ x, (blk s.view (2 + p / 64))[p % 64]? = some x ∧ (recB d)[t]? = some x := by
  obtain ⟨h1, h2⟩ := body_at (snap := snap) hd ht
  have hs := h.small
  have hn8 := h.n8
  have hq : p < (body snap recs).length := by omega
  have hhf : 64 * half s.n ≤ 64 * (s.n - 2) := by unfold half; omega
  refine ⟨by omega, by omega, ?_⟩
  have ha : abeg s.n 0 = 128 := by unfold abeg; omega
  have hb := h.bytes p hq
  rw [ha] at hb
  obtain ⟨x, hx⟩ : ∃ x, (recB d)[t]? = some x := ⟨_, List.getElem?_eq_getElem (by rw [recB_len]; exact ht)⟩
  refine ⟨x, ?_, hx⟩
  rw [get_blk, if_pos (by omega), show 64 * (2 + p / 64) + p % 64 = 128 + p by omega, hb, hp, h1, hx]
theorem byte_turn (x : UInt8) {c : Nat} (hc : c < 255) : ∃ y : UInt8, (x.toNat + 1 + c) % 256 = y.toNat ∧ x ≠ y := by
  refine ⟨UInt8.ofNat (x.toNat + 1 + c), by simp, fun e => ?_⟩
  have h1 := congrArg UInt8.toNat e
  have h2 : (UInt8.ofNat (x.toNat + 1 + c)).toNat = (x.toNat + 1 + c) % 256 := by simp
  have h3 := x.toNat_lt
  omega
end Go.Dk
namespace Go.Proofs
open Go.RowKit Go.Dk
theorem Dk.byteCell_at {b : List UInt8} {k : Nat} {x : UInt8} (h : b[k]? = some x) : (Lib.byteCells b)[k]? = some (.int .u8 (x.toNat : Nat)) := by simp [Lib.byteCells, h]
/-- A disk, and a state in its box. -/
structure Try.Tq (B : Nat) (w0 w : World) (own : Nat → Prop) (s : DS) (x bN : Nat) (rv : Value) (rs : List (List UInt8)) : Prop where
  dsk : Try.Dsk w own x s
  lo : ∀ k, own k → B ≤ k
  bx : w.heap[bN]? = some (.cells #[.string ⟨#[]⟩, rv] 28 (0, 0))
  nb : ¬ own bN ∧ B ≤ bN
  st : w.ownsRow 0 9 1 rv rs.length (Dk.strs rs)
  rb : ∀ k, rv.ownBlock = some k → ¬ own k ∧ B ≤ k
  bel : Below B w0 w
section
variable {B : Nat} {w0 w w' : World} {own : Nat → Prop} {s : DS} {x bN : Nat} {rv : Value} {rs : List (List UInt8)}
theorem Try.Tq.size (h : Try.Tq B w0 w own s x bN rv rs) : B ≤ w.heap.size := by
  have := Dk.block_lt h.bx
  have := h.nb.2
  omega
theorem Try.Tq.below (h : Try.Tq B w0 w own s x bN rv rs) (hb : Below w.heap.size w w') : Try.Tq B w0 w' own s x bN rv rs :=
  ⟨h.dsk.below hb, h.lo, (hb.block _ (Dk.block_lt h.bx)).trans h.bx, h.nb, Dk.row_heap h.st fun k e => hb.block k (h.st.lt k e).2, h.rb, h.bel.trans (hb.mono h.size)⟩
/-- A cell of a block that is nobody's is set. -/
theorem Try.Tq.set (h : Try.Tq B w0 w own s x bN rv rs) {g : Nat} (hg : ¬ own g ∧ g ≠ bN ∧ B ≤ g ∧ ∀ k, rv.ownBlock = some k → k ≠ g) (j : Nat) (v : Value) : Try.Tq B w0 (w.setCell ⟨g, j, none⟩ v) own s x bN rv rs := by
  have hwo : Dk.Wo (fun k => k = g) w (w.setCell ⟨g, j, none⟩ v) := (Dk.Wo.refl _ w).setCell g j v (.inl rfl)
  exact ⟨h.dsk.keep (fun k e => hwo.block k (h.dsk.lt k e) fun e1 => hg.1 (e1 ▸ e)) hwo.size, h.lo, (hwo.block _ (Dk.block_lt h.bx) fun e => hg.2.1 e.symm).trans h.bx, h.nb, Dk.row_heap h.st fun k e => hwo.block k (h.st.lt k e).2 (hg.2.2.2 k e), h.rb, h.bel.trans (hwo.bel (fun k e => by rw [e]; exact hg.2.2.1) h.size)⟩
/-- Behind a write. -/
theorem Try.Tq.chg {s' : DS} (h : Try.Tq B w0 w own s x bN rv rs) (hc : Try.Chg own w w' x s') : ∃ own', Try.Tq B w0 w' own' s' x bN rv rs := by
  obtain ⟨own', hD, hl⟩ := hc.ex
  have hwo := hc.wo
  have hsz := h.size
  have hno : ∀ k, k < w.heap.size → ¬ own k → ¬ own' k := fun k hk e e1 => by
    rcases hl k e1 with e2 | e2
    · exact e e2
    · omega
  refine ⟨own', hD, fun k e => ?_, (hwo.block _ (Dk.block_lt h.bx) h.nb.1).trans h.bx, ⟨hno _ (Dk.block_lt h.bx) h.nb.1, h.nb.2⟩, Dk.row_heap h.st fun k e => hwo.block k (h.st.lt k e).2 (h.rb k e).1, fun k e => ⟨hno k (h.st.lt k e).2 (h.rb k e).1, (h.rb k e).2⟩, h.bel.trans (hwo.bel h.lo hsz)⟩
  rcases hl k e with e1 | e1
  · exact h.lo k e1
  · omega
theorem Try.Tq.read (h : Try.Tq B w0 w own s x bN rv rs) (hd : s.dead = false) (i : Nat) (hi : i < s.n) :
    Calls Try.prog 18 #[.pointer (some ⟨x, 0, none⟩), .int .i64 i] w fun e w' => e = .returned (.tuple #[.slice (some ⟨w.heap.size, 0, none⟩) 64 64, .int .i64 0]) ∧ w'.heap[w.heap.size]? = some (.cells (Lib.byteCells (blk s.view i)).toArray 5 (0, 0)) ∧ Try.Tq B w0 w' own s x bN rv rs ∧ (¬ own w.heap.size ∧ w.heap.size ≠ bN ∧ B ≤ w.heap.size ∧ ∀ k, rv.ownBlock = some k → k ≠ w.heap.size) := by
  obtain ⟨l, t, V, hm, -⟩ := h.dsk.ex
  refine (Try.read_ok hm rfl hd i hi).mono ?_
  rintro e w' ⟨rfl, h1, h2⟩
  refine ⟨rfl, h1, h.below h2, fun e => ?_, fun e => ?_, h.size, fun k e => ?_⟩
  · have := h.dsk.lt _ e; omega
  · have := Dk.block_lt h.bx; omega
  · have := (h.st.lt k e).2; omega
theorem Try.Tq.ne (h : Try.Tq B w0 w own s x bN rv rs) : ∀ k, rv.ownBlock = some k → k ≠ bN := fun k e => by
  rintro rfl
  rcases h.st.2 with ⟨e1, _⟩ | ⟨g', cap, cur, e1, _, e2, _⟩
  · rw [e1] at e; cases e
  · rw [e1] at e
    injection e with e
    simp at e
    subst e
    rw [h.bx] at e2
    injection e2 with e2
    injection e2 with _ e3 _
    exact absurd e3 (by decide)
/-- The first k records. -/
theorem Try.Tq.cut {ad : Option Addr} {n cap k : Nat} (h : Try.Tq B w0 w own s x bN (.slice ad n cap) rs) (hk : k ≤ rs.length) : Try.Sta w (fun k => k ≠ bN) (.agg #[.string ⟨#[]⟩, .slice ad k cap]) [] (rs.take k) := by
  obtain ⟨hl, h1⟩ := h.st
  refine ⟨_, rfl, ⟨by simp [Dk.strs], ?_⟩, fun j hj => h.ne j (by cases ad with | none => cases hj | some a => exact hj)⟩
  have hm : (rs.take k).length = k := by rw [List.length_take]; omega
  rcases h1 with ⟨e1, e2⟩ | ⟨g, cap', cur, e1, hg, hb, h2, h3, h4, h5⟩
  · injection e1 with e3 e4 e5
    left
    rw [hm]
    subst e3
    refine ⟨?_, by omega⟩
    rw [e5, show k = 0 by omega]
  · injection e1 with e3 e4 e5
    right
    refine ⟨g, cap', cur, by rw [e3, e5, hm], hg, hb, by omega, h3, h4, ?_⟩
    rw [hm, Dk.strs, List.map_take, ← Dk.strs, ← h5, List.take_take, Nat.min_eq_left (by omega), Nat.mul_one]
/-- A byte of a row that Read gave is set, and the row is written back. -/
theorem Try.Tq.spoil {i j g q : Nat} {rs' : List (List UInt8)} {d : List UInt8} {k t : Nat} {xb yb : UInt8} (h : Try.Tq B w0 w own s x bN rv rs) (ho : Holds s 1 0 [] rs') (hc : s.Can (q + 1)) (hd : rs'[k]? = some d) (ht : t = 0 ∨ 3 ≤ t) (hx : (recB d)[t]? = some xb) (hxy : xb ≠ yb) {p : Nat} (hp : p = (body [] (rs'.take k)).length + t) (hi : i = 2 + p / 64) (hj : j = p % 64) (hin : i < s.n)
    (hg : w.heap[g]? = some (.cells (Lib.byteCells (blk s.view i)).toArray 5 (0, 0))) (hno : ¬ own g ∧ g ≠ bN ∧ B ≤ g ∧ ∀ k, rv.ownBlock = some k → k ≠ g) (z : Int) (hz : z = ((yb.toNat : Nat) : Int)) :
    Calls Try.prog 19 #[.pointer (some ⟨x, 0, none⟩), .int .i64 i, .slice (some ⟨g, 0, none⟩) 64 64] (w.setCell ⟨g, j, none⟩ (.int .u8 z)).drew fun e w' => e = .returned (.int .i64 0) ∧ ∃ own' s', Try.Tq B w0 w' own' s' x bN rv rs ∧ Tells s' [] (rs'.take k) ∧ s'.dead = false := by
  have hbl := blk_length ho.len hin
  have hT := (h.set hno j (.int .u8 z)).below (Below.refl _ _).drew
  have hh : ((w.setCell ⟨g, j, none⟩ (.int .u8 z)).drew).heap[g]? = some (.cells (Lib.byteCells ((blk s.view i).set j yb)).toArray 5 (0, 0)) := by
    show (w.setCell ⟨g, j, none⟩ (.int .u8 z)).heap[g]? = _
    rw [heap_setCell_same w _ _ _ _ _ hg, hz]
    simp [Lib.byteCells, List.map_set]
  have hsrc := Dk.src_row hh 64
  have hsl : ((blk s.view i).set j yb).length = 64 := by rw [List.length_set]; exact hbl
  rw [hsl] at hsrc
  have hsp := spoilt_of (y := yb) ho hp (by rw [← hi]; exact hin)
  rw [← hi, ← hj] at hsp
  refine (Try.write_op hT.dsk hc i hin _ (Nat.le_of_eq hsl) _ hsrc).mono ?_
  rintro e w' ⟨rfl, hch⟩
  rw [if_pos (op_free s _ ho.fs).1]
  obtain ⟨own', hT'⟩ := hT.chg hch
  exact ⟨rfl, own', _, hT', ho.tells hd hsp hx hxy ht, (op_can hc ho.fs _).dead⟩
/-- What was told is held against the first k records. -/
theorem Try.Tq.last {w4 : World} {gN n cap k y : Nat} {adF : Option Addr} {capF : Nat} (h : Try.Tq B w0 w4 own s x bN (.slice (some ⟨gN, 0, none⟩) n cap) rs) {w5 : World} (hk : k ≤ rs.length) (hf : rs.length < 1000000) (hT : Try.Td w4 w5 y [] (rs.take k) (.agg #[.string ⟨#[]⟩, .slice adF k capF])) :
    ((w5.alloc (.cells #[.string ⟨#[]⟩, .slice adF k capF] 28)).setCell ⟨bN, 1, none⟩ (.slice (some ⟨gN, 0, none⟩) k cap)).heap[w5.heap.size]? = some (.cells #[.string ⟨#[]⟩, .slice adF k capF] 28 (0, 0)) ∧
    ((w5.alloc (.cells #[.string ⟨#[]⟩, .slice adF k capF] 28)).setCell ⟨bN, 1, none⟩ (.slice (some ⟨gN, 0, none⟩) k cap)).heap[bN]? = some (.cells #[.string ⟨#[]⟩, .slice (some ⟨gN, 0, none⟩) k cap] 28 (0, 0)) ∧
    Below B w0 ((w5.alloc (.cells #[.string ⟨#[]⟩, .slice adF k capF] 28)).setCell ⟨bN, 1, none⟩ (.slice (some ⟨gN, 0, none⟩) k cap)) ∧
    ∀ W : World, W.heap = ((w5.alloc (.cells #[.string ⟨#[]⟩, .slice adF k capF] 28)).setCell ⟨bN, 1, none⟩ (.slice (some ⟨gN, 0, none⟩) k cap)).heap → Calls Try.prog 15 #[.agg #[.string ⟨#[]⟩, .slice adF k capF], .agg #[.string ⟨#[]⟩, .slice (some ⟨gN, 0, none⟩) k cap]] W fun r w' => r = .returned (.bool true) ∧ Below W.heap.size W w' := by
  have hb4 := Dk.block_lt h.bx
  have hz5 := hT.bel.size
  have hal : Below w5.heap.size w5 (w5.alloc (.cells #[.string ⟨#[]⟩, .slice adF k capF] 28)) := (Below.refl w5.heap.size w5).alloc (Nat.le_refl _) _
  have hT5 := (h.below hT.bel).below hal
  have hst := hT5.cut hk
  obtain ⟨w6, hw6⟩ : ∃ w6, w6 = w5.alloc (.cells #[.string ⟨#[]⟩, .slice adF k capF] 28) := ⟨_, rfl⟩
  have hx6 : w6.heap[w5.heap.size]? = some (.cells #[.string ⟨#[]⟩, .slice adF k capF] 28 (0, 0)) := by rw [hw6]; exact heap_alloc_new w5 _
  rw [← hw6] at hT5 hst hal ⊢
  have hoth : ∀ j, j ≠ bN → (w6.setCell ⟨bN, 1, none⟩ (.slice (some ⟨gN, 0, none⟩) k cap)).heap[j]? = w6.heap[j]? := fun j hj => Below.heap_setCell w6 ⟨bN, 1, none⟩ _ j (by show j ≠ bN; exact hj)
  refine ⟨(hoth _ (by omega)).trans hx6, ?_, hT5.bel.setCell (by show B ≤ bN; exact h.nb.2) _, fun W hW => ?_⟩
  · rw [heap_setCell_same w6 _ _ _ _ _ hT5.bx]; rfl
  · refine Try.same_any (P := fun _ => True) (P' := fun _ => True) (by rw [List.length_take]; omega) (hT.st.mono fun j hj hp => ⟨?_, trivial⟩) (hst.mono fun j hj hp => ⟨?_, trivial⟩)
    · rw [hW, hoth j (by omega), hal.block j hj]
    · rw [hW, hoth j hp]
end
end Go.Proofs
