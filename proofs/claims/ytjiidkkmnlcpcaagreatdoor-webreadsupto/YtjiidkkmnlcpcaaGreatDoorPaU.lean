/-
  Laid together by packg.py of WsI WsL WsM WsN.
-/
import Derived.Test.YtjiidkkmnlcpcaaGreatDoorPaT
import Derived.Test.YtjiidkkmnlcpcaaGreatDoorPaR
import Derived.Deep.QuietTactic
import Derived.Deep.Cut
import Derived.Deep.CutBlock
namespace Go.Wb
open Go.RowKit Go.Wi Go.Proofs
/-- Is reading over? -/
def deadR {α : Type} : Re α → Bool
  | .ok _ _ _ => false
  | _ => true
theorem fit_some {α : Type} {x : Sn} {s : List UInt8} {st : Nat} {a : α} {r : List UInt8} {i n : Nat} (g : x.good s st 0) (f : Fitt x (.ok a r i)) (hn : ¬ r.length < n) : Sn.good { x with i := i + n } s st 0 ∧ Fitt { x with i := i + n } (.ok (r.take n) (r.drop n) (i + n) : Re (List UInt8)) := by
  obtain ⟨f1, f2, f3, f4, f5⟩ := f
  have hl : r.length = s.length - i := by rw [f5, List.length_drop, g.tx]
  have hi := g.i
  rw [f4] at hi
  refine ⟨⟨g.tx, g.sta, g.lmt, g.len, by show i + n ≤ _; omega, by show st ≤ i + n; have := g.sti; rw [f4] at this; omega, g.lim, fun h => absurd rfl h⟩, f1, f2, f3, rfl, ?_⟩
  rw [f5, List.drop_drop]
theorem vals_next {L : Hdl} {nm : List UInt8} {i : Nat} (hi : i < L.length) : valsD (L.take (i + 1)) nm = if (L[i].1 == nm) = true then valsD (L.take i) nm ++ [L[i].2] else valsD (L.take i) nm := by
  unfold valsD
  rw [List.take_add_one, List.getElem?_eq_getElem hi, List.filter_append, List.map_append]
  by_cases h : (L[i].1 == nm) = true
  · rw [if_pos h]; simp [h]
  · rw [if_neg h]; simp [h]
theorem lastD_app (l : List (List UInt8)) (x : List UInt8) : lastD (l ++ [x]) = x := by unfold lastD; simp
theorem vals_len (L : Hdl) (nm : List UInt8) : (valsD L nm).length ≤ L.length := by
  unfold valsD
  rw [List.length_map]
  exact List.length_filter_le _ _
theorem lastD_mem {l : List (List UInt8)} {n : Nat} (h : ∀ x ∈ l, x.length ≤ n) : (lastD l).length ≤ n := by
  unfold lastD
  cases hl : l.getLast? with
  | none => exact Nat.zero_le _
  | some y => exact h y (List.mem_of_getLast? hl)
theorem vals_mem {L : Hdl} {nm : List UInt8} {n : Nat} (h : ∀ x ∈ L, x.1.length ≤ n ∧ x.2.length ≤ n) : ∀ x ∈ valsD L nm, x.length ≤ n := by
  intro x hx
  unfold valsD at hx
  obtain ⟨y, hy, rfl⟩ := List.mem_map.1 hx
  exact (h y (List.mem_filter.1 hy).1).2
/-- A length as a number; below nought: it is none. -/
def lengthI (most : Nat) (l : List UInt8) : Int := match lengthD most l with
  | some n => (n : Int)
  | none => -1
theorem lenStep_le (most n : Nat) (c : UInt8) : lenStep most n c ≤ most + 1 := by
  unfold lenStep
  split <;> omega
theorem len_fold (most : Nat) (l : List UInt8) : l.foldl (lenStep most) 0 ≤ most + 1 := by
  have : ∀ (l : List UInt8) n, n ≤ most + 1 → l.foldl (lenStep most) n ≤ most + 1 := by
    intro l
    induction l with
    | nil => intro n h; exact h
    | cons c r ih => intro n _; exact ih _ (lenStep_le _ _ _)
  exact this l 0 (by omega)
theorem fold_next {most : Nat} {l : List UInt8} {i : Nat} (hi : i < l.length) : (l.take (i + 1)).foldl (lenStep most) 0 = lenStep most ((l.take i).foldl (lenStep most) 0) l[i] := by
  rw [List.take_add_one, List.getElem?_eq_getElem hi, List.foldl_append]; rfl
theorem all_next {p : UInt8 → Bool} {l : List UInt8} {i : Nat} (hi : i < l.length) (h : (l.take i).all p = true) (hp : p l[i] = true) : (l.take (i + 1)).all p = true := by
  rw [List.take_add_one, List.getElem?_eq_getElem hi, List.all_append, h]
  simp [hp]
/-- A digit in base sixteen; below nought: it is none. -/
def hexI (c : UInt8) : Int := match hexd c with
  | some n => (n : Int)
  | none => -1
theorem hex_all : ∀ n, n < 256 → hexI (UInt8.ofNat n) = if 48 ≤ n ∧ n ≤ 57 then (n : Int) - 48 else if 65 ≤ n ∧ n ≤ 70 then (n : Int) - 55 else if 97 ≤ n ∧ n ≤ 102 then (n : Int) - 87 else -1 := by decide +kernel
theorem hex_is (c : UInt8) : hexI c = if 48 ≤ c.toNat ∧ c.toNat ≤ 57 then (c.toNat : Int) - 48 else if 65 ≤ c.toNat ∧ c.toNat ≤ 70 then (c.toNat : Int) - 55 else if 97 ≤ c.toNat ∧ c.toNat ≤ 102 then (c.toNat : Int) - 87 else -1 := by
  have h := hex_all c.toNat c.toNat_lt
  rwa [UInt8.ofNat_toNat] at h
end Go.Wb
namespace Go.Proofs
open Go.RowKit Go.Wi Go.Wb
set_option maxRecDepth 20000 in
set_option maxHeartbeats 1000000 in
theorem Tryz.ssOver {α : Type} {w : World} {p : Nat} {s : List UInt8} {st li : Nat} {R : Re α} (h : Tryz.SS w p s st li R) :
    Calls Tryz.prog 71 #[.pointer (some ⟨p, 0, none⟩)] w fun e w' => e = .returned (.bool (deadR R)) ∧ w' = w := by
  obtain ⟨x, h1, h2, h3⟩ := h.ex
  obtain ⟨c0, c1, c2, c3, c4, c5, c6⟩ := Tryz.Sc.c h1
  clear c0 c1 c2 c3 c4 h h1 h2
  cases R with
  | bad a e =>
    have q : ((x.e : Int) != 0) = true := by have := h3.2.1; have := h3.1; simp; omega
    clear h3
    go_enter Tryz.func71, Tryz.ntmps71
    go_wp2
    go_ret
    exact ⟨rfl, rfl⟩
  | more =>
    have q : ((x.e : Int) != 0) = false := by rw [h3.1]; rfl
    rw [h3.2.2] at c6
    clear h3
    go_enter Tryz.func71, Tryz.ntmps71
    go_wp2
    go_ret
    exact ⟨rfl, rfl⟩
  | ok a r i =>
    have q : ((x.e : Int) != 0) = false := by rw [h3.1]; rfl
    rw [h3.2.2.1] at c6
    clear h3
    go_enter Tryz.func71, Tryz.ntmps71
    go_wp2
    go_ret
    exact ⟨rfl, rfl⟩
theorem dead_bind {α β : Type} {R : Re α} (h : deadR R = true) (g : α → List UInt8 → Nat → Re β) : deadR (R.bind g) = true := by cases R <;> first | rfl | cases h
theorem Tryz.SS.deadTo {α β : Type} {w : World} {p : Nat} {s : List UInt8} {st li : Nat} {R : Re α} (h : Tryz.SS w p s st li R) (hd : deadR R = true) (g : α → List UInt8 → Nat → Re β) : Tryz.SS w p s st li (R.bind g) := by
  obtain ⟨x, h1, h2, h3⟩ := h.ex
  refine ⟨x, h1, h2, ?_⟩
  cases R with
  | bad a e => exact h3
  | more => exact h3
  | ok a r i => cases hd
theorem dead_nok {α : Type} {R : Re α} (h : deadR R = true) : ∀ a r j, R ≠ .ok a r j := by
  intro a r j e
  rw [e] at h; cases h
set_option maxRecDepth 20000 in
set_option maxHeartbeats 1000000 in
theorem Tryz.ssSome {α : Type} {w : World} {p : Nat} {s : List UInt8} {st : Nat} {R : Re α} (h : Tryz.SS w p s st 0 R) (n : Nat) (hn : n ≤ 4611686018427387904) :
    Calls Tryz.prog 75 #[.pointer (some ⟨p, 0, none⟩), .int .i64 n] w fun e w' => ∃ v : List UInt8, e = .returned (.string ⟨v.toArray⟩) ∧ TxtOk s v (R.bind fun _ r i => someD n r i) ∧ v.length ≤ n ∧ Tryz.SS w' p s st 0 (R.bind fun _ r i => someD n r i) ∧ Wo (fun k => k = p) w w' := by
  have k1 := Tryz.ssOver h
  cases hR : deadR R with
  | true =>
    rw [hR] at k1
    have HS : Hid (Tryz.SS w p s st 0 (R.bind fun _ r i => someD n r i)) := Tryz.SS.deadTo h hR _
    have HN := dead_nok (dead_bind hR fun _ r i => someD n r i)
    clear h hR
    go_enter Tryz.func75, Tryz.ntmps75
    go_wp2_with (first | (go_at_call 71; refine k1.mono ?_; clear k1; rintro e w1 ⟨rfl, rfl⟩) | fail)
    go_ret
    exact ⟨[], rfl, ⟨Nat.zero_le _, fun a r j e => absurd e (HN a r j)⟩, Nat.zero_le _, HS.out, Wo.refl _ _⟩
  | false =>
    rw [hR] at k1
    cases R with
    | bad a e => cases hR
    | more => cases hR
    | ok a r i =>
      obtain ⟨c0, c1, fz, hil, hsl, hdr⟩ := Tryz.SS.c h
      have hrl : r.length = s.length - i := by rw [hdr, List.length_drop]
      have hz : (⟨s.toArray⟩ : ByteArray).size = s.length := text_size s
      by_cases hlt : r.length < n
      · have q1 : (s.length : Int) - (i : Int) < (n : Int) := by omega
        have qw : IntKind.i64.wrap ((s.length : Int) - (i : Int)) = (s.length : Int) - (i : Int) := by rw [IntKind.wrap_i64]; omega
        have hE : ((Re.ok a r i).bind fun _ r i => someD n r i) = .more := by rw [bind_ok_eq]; exact if_pos hlt
        have HS : Hid (∀ k, Tryz.SS ((w.drewN k).setCell ⟨p, 6, none⟩ (.bool true)) p s st 0 (.more : Re (List UInt8))) := fun k => (by
          obtain ⟨x, h1, h2, h3⟩ := h.ex
          exact ⟨{ x with more := true }, heap_setCell_same (w.drewN k) p 6 _ _ (.bool true) h1, ⟨h2.tx, h2.sta, h2.lmt, h2.len, h2.i, h2.sti, h2.lim, h2.bd⟩, h3.1, h3.2.1, rfl⟩)
        rw [hE]
        have f6 := fz 6
        have c6 : w.cell? ⟨p, 6, none⟩ = some (.bool false) := (by
          obtain ⟨x, h1, h2, h3⟩ := h.ex
          rw [(Tryz.Sc.c h1).2.2.2.2.2.2, h3.2.2.1])
        clear h hR hdr hrl hlt fz hE
        go_enter Tryz.func75, Tryz.ntmps75
        go_upto_region 3 with (first | (go_at_call 71; refine k1.mono ?_; clear k1; rintro e w1 ⟨rfl, rfl⟩) | fail)
        go_quiet (fail)
        go_wp2
        go_ret
        exact ⟨[], rfl, ⟨Nat.zero_le _, fun a r j e => by cases e⟩, Nat.zero_le _, HS.out _, ((Wo.refl (fun k => k = p) _).drewN _).setCell p 6 _ (.inl rfl)⟩
      · have q1 : ¬ (s.length : Int) - (i : Int) < (n : Int) := by omega
        have qw : IntKind.i64.wrap ((s.length : Int) - (i : Int)) = (s.length : Int) - (i : Int) := by rw [IntKind.wrap_i64]; omega
        have hE : ((Re.ok a r i).bind fun _ r i => someD n r i) = .ok (r.take n) (r.drop n) (i + n) := by rw [bind_ok_eq]; exact if_neg hlt
        have HS : Hid (∀ k, Tryz.SS ((w.drewN k).setCell ⟨p, 1, none⟩ (.int .i64 ((i : Int) + (n : Int)))) p s st 0 (.ok (r.take n) (r.drop n) (i + n) : Re (List UInt8))) := fun k => (by
          obtain ⟨x, h1, h2, h3⟩ := h.ex
          obtain ⟨g1, g2⟩ := fit_some h2 h3 hlt
          exact ⟨_, Tryz.Sc.move (w := w.drewN k) h1 (i + n), g1, g2⟩)
        have HV : Hid ((s.drop i).take n = r.take n) := (by show _ = _; rw [hdr])
        rw [hE]
        have f1 := fz 1
        have qs : (i : Int) + (n : Int) ≤ (s.length : Int) := by omega
        clear h hR hdr hrl hlt fz hE
        go_enter Tryz.func75, Tryz.ntmps75
        go_upto_region 3 with (first | (go_at_call 71; refine k1.mono ?_; clear k1; rintro e w1 ⟨rfl, rfl⟩) | fail)
        go_quiet (fail)
        go_upto_region 7 with (fail)
        go_quiet (fail)
        go_wp2
        go_ret
        exact ⟨r.take n, by rw [ext_two, Nat.add_sub_cancel_left, HV.out]; rfl, ⟨by rw [← HV.out, List.length_take, List.length_drop]; omega, fun a r j e => by injection e⟩, by rw [List.length_take]; omega, Tryz.SS.drewN (HS.out _) _, (((Wo.refl (fun k => k = p) _).drewN _).setCell p 1 _ (.inl rfl)).drewN _⟩
set_option maxHeartbeats 1000000 in
theorem Tryz.rHex_any (c : UInt8) (w : World) : Calls Tryz.prog 113 #[.int .i64 c.toNat] w fun e w' => e = .returned (.int .i64 (hexI c)) ∧ w' = w := by
  rw [hex_is]
  have hlt := c.toNat_lt
  generalize c.toNat = n at *
  by_cases h1 : 48 ≤ n ∧ n ≤ 57
  · rw [if_pos h1]
    have q1 : (48 : Int) ≤ (n : Int) := by omega
    have q2 : (n : Int) ≤ 57 := by omega
    go_enter Tryz.func113, Tryz.ntmps113
    go_wp2
    go_ret
    exact ⟨rfl, rfl⟩
  · rw [if_neg h1]
    by_cases h2 : 65 ≤ n ∧ n ≤ 70
    · rw [if_pos h2]
      have q1 : (48 : Int) ≤ (n : Int) := by omega
      have q2 : ¬ (n : Int) ≤ 57 := by omega
      have q3 : (65 : Int) ≤ (n : Int) := by omega
      have q4 : (n : Int) ≤ 70 := by omega
      go_enter Tryz.func113, Tryz.ntmps113
      go_wp2
      go_ret
      exact ⟨rfl, rfl⟩
    · rw [if_neg h2]
      by_cases h3 : 97 ≤ n ∧ n ≤ 102
      · rw [if_pos h3]
        have q1 : (48 : Int) ≤ (n : Int) := by omega
        have q2 : ¬ (n : Int) ≤ 57 := by omega
        have q3 : (65 : Int) ≤ (n : Int) := by omega
        have q4 : ¬ (n : Int) ≤ 70 := by omega
        have q5 : (97 : Int) ≤ (n : Int) := by omega
        have q6 : (n : Int) ≤ 102 := by omega
        go_enter Tryz.func113, Tryz.ntmps113
        go_wp2
        go_ret
        exact ⟨rfl, rfl⟩
      · rw [if_neg h3]
        by_cases q1 : (48 : Int) ≤ (n : Int) <;> by_cases q2 : (n : Int) ≤ 57 <;> by_cases q3 : (65 : Int) ≤ (n : Int) <;> by_cases q4 : (n : Int) ≤ 70 <;> by_cases q5 : (97 : Int) ≤ (n : Int) <;> by_cases q6 : (n : Int) ≤ 102 <;> first
          | (exfalso; omega)
          | (go_enter Tryz.func113, Tryz.ntmps113
             go_wp2
             go_ret
             exact ⟨rfl, rfl⟩)
set_option maxHeartbeats 1000000 in
theorem Tryz.rHex_neg (w : World) : Calls Tryz.prog 113 #[.int .i64 (-1)] w fun e w' => e = .returned (.int .i64 (-1)) ∧ w' = w := by
  go_enter Tryz.func113, Tryz.ntmps113
  go_wp2
  go_ret
  exact ⟨rfl, rfl⟩
set_option maxRecDepth 20000 in
set_option maxHeartbeats 1000000 in
theorem Tryz.rLength_any (l : List UInt8) (hl : l.length ≤ 4611686018427387904) (most : Nat) (hm : most ≤ 999999999) (w : World) : Calls Tryz.prog 95 #[.string ⟨l.toArray⟩, .int .i64 most] w fun e w' => e = .returned (.int .i64 (lengthI most l)) ∧ w' = w := by
  have hz : (⟨l.toArray⟩ : ByteArray).size = l.length := text_size l
  cases hl0 : l with
  | nil =>
    subst hl0
    clear hl hz
    go_enter Tryz.func95, Tryz.ntmps95
    go_wp2
    go_ret
    exact ⟨rfl, rfl⟩
  | cons c0 r0 =>
    have hne : l ≠ [] := by rw [hl0]; exact List.cons_ne_nil _ _
    rw [← hl0]
    have qe : (l.isEmpty) = false := by rw [hl0]; rfl
    have HV : Hid (l.all dig = true → lengthI most l = ((l.foldl (lenStep most) 0 : Nat) : Int)) := fun e => (by unfold lengthI lengthD isNumber; rw [e, qe]; rfl)
    have HN : Hid (l.all dig = false → lengthI most l = -1) := fun e => (by unfold lengthI lengthD isNumber; rw [e, qe]; rfl)
    clear hl0 hne c0 r0
    go_enter Tryz.func95, Tryz.ntmps95
    go_wp2
    go_loopw [5, 6, 7] (fun nv iv _ wr => ∃ i k : Nat, nv = .int .i64 k ∧ iv = .int .i64 i ∧ i ≤ l.length ∧ (l.take i).foldl (lenStep most) 0 = k ∧ (l.take i).all dig = true ∧ wr = w) (fun _ iv _ _ => l.length - (intOf iv).toNat)
    case atStart => exact ⟨0, 0, rfl, rfl, Nat.zero_le _, rfl, rfl, rfl⟩
    case round =>
      obtain ⟨i, k, rfl, rfl, hi, hk, ha, rfl⟩ := hrel
      have hk9 : k ≤ most + 1 := by rw [← hk]; exact len_fold _ _
      have HK : Hid ((l.take i).foldl (lenStep most) 0 = k) := hk
      have HA : Hid ((l.take i).all dig = true) := ha
      clear hk ha
      by_cases hlt : i < l.length
      · have q : (i : Int) < (l.length : Int) := by omega
        obtain ⟨d, hde⟩ : ∃ d, l[i]'hlt = d := ⟨_, rfl⟩
        have hix : ∀ h : i < (⟨l.toArray⟩ : ByteArray).size, (⟨l.toArray⟩ : ByteArray)[i]'h = d := fun h => (at_text hlt h).trans hde
        have hwd : wrap64 ((d.toNat : Nat) : Int) = ((d.toNat : Nat) : Int) := wrap_u8 d
        have hd8 := d.toNat_lt
        have k1 := Tryz.rDig_any d
        cases hd : dig d with
        | false =>
          rw [hd] at k1
          have HE : Hid (lengthI most l = -1) := HN.out (all_not hlt (by rw [hde]; exact hd))
          clear hd hde HV HN
          go_wp2_with (first | (go_at_call 89; refine (k1 _).mono ?_; clear k1; rintro e w2 ⟨rfl, rfl⟩) | fail)
          go_ret
          exact ⟨by rw [HE.out]; rfl, rfl⟩
        | true =>
          rw [hd] at k1
          have hdd : 48 ≤ d.toNat ∧ d.toNat ≤ 57 := by unfold dig at hd; simpa using hd
          have HA2 : Hid ((l.take (i + 1)).all dig = true) := all_next hlt HA.out (by rw [hde]; exact hd)
          have HK2 : Hid ((l.take (i + 1)).foldl (lenStep most) 0 = lenStep most k d) := (by show _ = _; rw [fold_next hlt, HK.out, hde])
          obtain ⟨c, hc⟩ : ∃ c : Nat, d.toNat = c + 48 := ⟨d.toNat - 48, by omega⟩
          have HX : Hid ((k : Int) * 10 + ((d.toNat : Nat) : Int) - 48 = ((k * 10 + c : Nat) : Int)) := (by show _ = _; rw [hc]; omega)
          have hc9 : c ≤ 9 := by omega
          clear hd hde HV HN HA HK hdd
          by_cases hb : most < k * 10 + (d.toNat - 48)
          · have HS : Hid (lenStep most k d = most + 1) := if_pos hb
            have q2 : (most : Int) < (k : Int) * 10 + ((d.toNat : Nat) : Int) - 48 := by omega
            clear hc
            go_wp2_with (first | (go_at_call 89; refine (k1 _).mono ?_; clear k1; rintro e w2 ⟨rfl, rfl⟩) | fail)
            go_roundw
            case rel => exact ⟨i + 1, most + 1, by simp, by simp, by omega, by rw [HK2.out, HS.out], HA2.out, trivial⟩
            case measure => simp [intOf]; omega
          · have HS : Hid (lenStep most k d = k * 10 + c) := (by show _ = _; unfold lenStep; rw [if_neg hb]; omega)
            have q2 : ¬ (most : Int) < (k : Int) * 10 + ((d.toNat : Nat) : Int) - 48 := by omega
            clear hc
            go_wp2_with (first | (go_at_call 89; refine (k1 _).mono ?_; clear k1; rintro e w2 ⟨rfl, rfl⟩) | fail)
            go_roundw
            case rel => exact ⟨i + 1, k * 10 + c, by rw [← HX.out], by simp, by omega, by rw [HK2.out, HS.out], HA2.out, trivial⟩
            case measure => simp [intOf]; omega
      · have q : ¬ (i : Int) < (l.length : Int) := by omega
        have ht : l.take i = l := List.take_of_length_le (by omega)
        have hk := HK.out
        have ha := HA.out
        rw [ht] at hk ha
        have HE : Hid (lengthI most l = (k : Int)) := (by show _ = _; rw [HV.out ha, hk])
        clear hk ha ht
        go_wp2
        go_ret
        exact ⟨by rw [HE.out]; rfl, rfl⟩
end Go.Proofs
namespace Go.Wb
open Go.RowKit Go.Wi Go.Proofs
/-- The next byte of a line that may have sixty-four bytes, and what is so then. -/
def linedI {α : Type} (f : Nat) : Re α → Int
  | .ok _ (d :: _) i => if d.toNat ≠ 13 ∧ i = f + 64 then -1 else ((d.toNat : Nat) : Int)
  | _ => -1
def linedR {α : Type} (f : Nat) : Re α → Re α
  | .ok _ [] _ => .more
  | .ok a (d :: q) i => if d.toNat ≠ 13 ∧ i = f + 64 then .bad i 181 else .ok a (d :: q) i
  | .bad a e => .bad a e
  | .more => .more
theorem lined_cases {α : Type} (f : Nat) (R : Re α) : linedI f R = -1 ∨ ∃ a d q i, R = .ok a (d :: q) i ∧ ¬ (d.toNat ≠ 13 ∧ i = f + 64) ∧ linedI f R = ((d.toNat : Nat) : Int) ∧ linedR f R = R := by
  cases R with
  | bad a e => exact .inl rfl
  | more => exact .inl rfl
  | ok a r i =>
    cases r with
    | nil => exact .inl rfl
    | cons d q =>
      by_cases h : d.toNat ≠ 13 ∧ i = f + 64
      · exact .inl (if_pos h)
      · exact .inr ⟨a, d, q, i, rfl, h, if_neg h, if_neg h⟩
theorem lined_none {α : Type} {f st : Nat} {R : Re α} (h : byteR (bnd st 0) R = -1) : linedI f R = -1 ∧ linedR f R = peekR (bnd st 0) R := by
  cases R with
  | bad a e => exact ⟨rfl, rfl⟩
  | more => exact ⟨rfl, rfl⟩
  | ok a r i =>
    cases r with
    | nil => exact ⟨rfl, rfl⟩
    | cons d q =>
      have hi : ¬ (i : Int) = bnd st 0 := by show ¬ (i : Int) = -1; omega
      have : byteR (bnd st 0) (.ok a (d :: q) i) = ((d.toNat : Nat) : Int) := by
        show (if (i : Int) = bnd st 0 then (-1 : Int) else ((d.toNat : Nat) : Int)) = _
        rw [if_neg hi]
      rw [this] at h; omega
/-- What begins by looking at the next byte of the line. -/
structure Lk {α β : Type} (f : Nat) (g : α → List UInt8 → Nat → Re β) : Prop where
  nil : ∀ a i, g a [] i = .more
  bd : ∀ a d q (i : Nat), d.toNat ≠ 13 ∧ i = f + 64 → g a (d :: q) i = .bad i 181
theorem lined_dead {α β : Type} {x : Sn} {R : Re α} {f : Nat} {g : α → List UInt8 → Nat → Re β} (hb : linedI f R = -1) (hg : Lk f g) (h : Fitt x (linedR f R)) : Fitt x (R.bind g) ∧ deadR (R.bind g) = true := by
  cases R with
  | bad a e => exact ⟨h, rfl⟩
  | more => exact ⟨h, rfl⟩
  | ok a r i =>
    cases r with
    | nil => show Fitt x (g a [] i) ∧ deadR (g a [] i) = true; rw [hg.nil]; exact ⟨h, rfl⟩
    | cons d q =>
      by_cases hi : d.toNat ≠ 13 ∧ i = f + 64
      · show Fitt x (g a (d :: q) i) ∧ deadR (g a (d :: q) i) = true
        rw [hg.bd _ _ _ _ hi]
        have h2 : Fitt x (if d.toNat ≠ 13 ∧ i = f + 64 then (.bad i 181 : Re α) else .ok a (d :: q) i) := h
        rw [if_pos hi] at h2
        exact ⟨h2, rfl⟩
      · have : linedI f (.ok a (d :: q) i) = ((d.toNat : Nat) : Int) := if_neg hi
        rw [this] at hb; omega
theorem hex_lk (most f : Nat) : Lk f (fun n r i => hexD most f n r i) := ⟨fun _ _ => rfl, fun _ d q i h => by rw [hexD_cons, if_pos h]⟩
theorem ext_lk {α : Type} (f : Nat) : Lk f (fun (_ : α) r i => exlD f r i) := ⟨fun _ _ => rfl, fun _ d q i h => by rw [exlD_cons, if_pos h]⟩
/-- A number, no greater than one above the greatest. -/
def capd (most n : Nat) : Nat := if most < n then most + 1 else n
theorem capd_le (most n : Nat) : capd most n ≤ most + 1 := by unfold capd; split <;> omega
theorem capd_grown {most n x : Nat} : capd most (grown most n 16 x) = if most < capd most n * 16 + x then most + 1 else capd most n * 16 + x := by
  unfold grown capd
  by_cases h : most < n
  · simp only [if_pos h]
    rw [if_pos (by omega)]
  · rw [if_neg h, if_neg h]
/-- Where reading stands within the digits of a size. -/
structure Hx (s : List UInt8) (i0 i most k : Nat) (S T : Re Nat) : Prop where
  le : i0 ≤ i
  il : i ≤ s.length
  at_ : ∀ a r j, S = .ok a r j → j = i ∧ j ≤ i0 + 64 ∧ capd most a = k
  all : (S.bind fun n r i => hexD most i0 n r i) = T
  kle : k ≤ most + 1
/-- Behind the digits. -/
structure Hy (s : List UInt8) (i0 i most k : Nat) (T : Re Nat) : Prop where
  le : i0 ≤ i
  il : i ≤ s.length
  at_ : ∀ a r j, T = .ok a r j → j = i ∧ j ≤ i0 + 64 ∧ capd most a = k ∧ ∃ d q, r = d :: q ∧ ¬ (d.toNat ≠ 13 ∧ j = i0 + 64)
  kle : k ≤ most + 1
/-- What follows the digits. -/
def sizeR (i0 : Nat) (T : Re Nat) : Re Nat := T.bind fun n r j => if j = i0 then .bad j 180 else
    (match r with | [] => .more | d :: q => if d = 59 then exlD i0 (d :: q) j else .ok () (d :: q) j : Re Unit).bind fun _ r j => (endD (-1) r j).bind fun _ r j => .ok n r j
theorem size_is {α : Type} {R : Re α} {most i0 : Nat} (h : ∀ a r j, R = .ok a r j → j = i0) : (R.bind fun _ r i => sizeD most r i) = sizeR i0 (R.bind fun _ r i => hexD most i0 0 r i) := by
  cases R with
  | bad a e => rfl
  | more => rfl
  | ok a r i => obtain rfl := h _ _ _ rfl; rfl
end Go.Wb
namespace Go.Proofs
open Go.RowKit Go.Wi Go.Wb
set_option maxRecDepth 20000 in
set_option maxHeartbeats 1000000 in
theorem Tryz.ssLined {α : Type} {w : World} {p : Nat} {s : List UInt8} {st : Nat} {R : Re α} (h : Tryz.SS w p s st 0 R) (f : Nat) (hf : ∀ a r i, R = .ok a r i → f ≤ i ∧ i ≤ f + 64) :
    Calls Tryz.prog 112 #[.pointer (some ⟨p, 0, none⟩), .int .i64 f] w fun e w' => e = .returned (.int .i64 (linedI f R)) ∧ Tryz.SS w' p s st 0 (linedR f R) ∧ Wo (fun k => k = p) w w' ∧ w'.cell? ⟨p, 1, none⟩ = w.cell? ⟨p, 1, none⟩ := by
  have k1 := Tryz.ssNext h
  rcases peek_cases (bnd st 0) R with hb | ⟨a, d, q, i, rfl, hi, hb, hp⟩
  · obtain ⟨e1, e2⟩ := lined_none (f := f) hb
    rw [e1, e2]
    rw [hb] at k1
    clear e1 e2 hb h hf
    go_enter Tryz.func112, Tryz.ntmps112
    go_wp2_with (first | (go_at_call 62; refine k1.mono ?_; clear k1; rintro e w1 ⟨rfl, h1, hw1, hc1⟩; have HC : Hid (w1.cell? ⟨p, 1, none⟩ = w.cell? ⟨p, 1, none⟩) := hc1; clear hc1) | fail)
    go_ret
    exact ⟨rfl, h1, hw1, HC.out⟩
  · rw [hb, hp] at k1
    obtain ⟨hf1, hf2⟩ := hf _ _ _ rfl
    have hlt := d.toNat_lt
    have q0 : (0 : Int) ≤ ((d.toNat : Nat) : Int) := by omega
    have q0b : ¬ ((d.toNat : Nat) : Int) < 0 := by omega
    by_cases h13 : d.toNat = 13
    · have hn : ¬ (d.toNat ≠ 13 ∧ i = f + 64) := fun e => e.1 h13
      have HV : Hid (linedI f (.ok a (d :: q) i) = ((d.toNat : Nat) : Int) ∧ linedR f (.ok a (d :: q) i) = .ok a (d :: q) i) := ⟨if_neg hn, if_neg hn⟩
      have q1 : (((d.toNat : Nat) : Int) != 13) = false := by simp; omega
      clear hb hp h hi h13 hn hf
      go_enter Tryz.func112, Tryz.ntmps112
      go_wp2_with (first | (go_at_call 62; refine k1.mono ?_; clear k1; rintro e w1 ⟨rfl, h1, hw1, hc1⟩; have HC : Hid (w1.cell? ⟨p, 1, none⟩ = w.cell? ⟨p, 1, none⟩) := hc1; clear hc1) | fail)
      go_ret
      exact ⟨by rw [HV.out.1]; rfl, by rw [HV.out.2]; exact h1, hw1, HC.out⟩
    · have q1 : (((d.toNat : Nat) : Int) != 13) = true := by simp; omega
      have qw : IntKind.i64.wrap ((i : Int) - (f : Int)) = (i : Int) - (f : Int) := by rw [IntKind.wrap_i64]; omega
      by_cases h64 : i = f + 64
      · have HV : Hid (linedI f (.ok a (d :: q) i) = -1 ∧ linedR f (.ok a (d :: q) i) = .bad i 181) := ⟨if_pos ⟨h13, h64⟩, if_pos ⟨h13, h64⟩⟩
        have q2 : (64 : Int) ≤ (i : Int) - (f : Int) := by omega
        have q2d : decide ((64 : Int) ≤ (i : Int) - (f : Int)) = true := decide_eq_true q2
        clear hb hp h hi h13 h64 hf
        go_enter Tryz.func112, Tryz.ntmps112
        go_wp2_with (first | (go_at_call 62; refine k1.mono ?_; clear k1; rintro e w1 ⟨rfl, h1, hw1, hc1⟩; have HC : Hid (w1.cell? ⟨p, 1, none⟩ = w.cell? ⟨p, 1, none⟩) := hc1; clear hc1; have k2 := Tryz.ssFail α h1 i 181 (by decide); have H1 := Tryz.SS.c h1; obtain ⟨c0, c1, fz, hil, hsl, hdd⟩ := H1; clear h1 fz c0 hdd) | (go_at_call 67; refine k2.mono ?_; clear k2; rintro e w2 ⟨⟨v, rfl⟩, h2, hw2, hc2⟩; have HC2 : Hid (w2.cell? ⟨p, 1, none⟩ = w.cell? ⟨p, 1, none⟩) := hc2.trans HC.out; clear hc2) | fail)
        go_ret
        exact ⟨by rw [HV.out.1]; rfl, by rw [HV.out.2]; exact h2, hw1.trans hw2, HC2.out⟩
      · have hn : ¬ (d.toNat ≠ 13 ∧ i = f + 64) := fun e => h64 e.2
        have HV : Hid (linedI f (.ok a (d :: q) i) = ((d.toNat : Nat) : Int) ∧ linedR f (.ok a (d :: q) i) = .ok a (d :: q) i) := ⟨if_neg hn, if_neg hn⟩
        have q2 : ¬ (64 : Int) ≤ (i : Int) - (f : Int) := by omega
        have q2d : decide ((64 : Int) ≤ (i : Int) - (f : Int)) = false := decide_eq_false q2
        clear hb hp h hi h13 h64 hn hf
        go_enter Tryz.func112, Tryz.ntmps112
        go_wp2_with (first | (go_at_call 62; refine k1.mono ?_; clear k1; rintro e w1 ⟨rfl, h1, hw1, hc1⟩; have HC : Hid (w1.cell? ⟨p, 1, none⟩ = w.cell? ⟨p, 1, none⟩) := hc1; clear hc1; have HH : Hid (Tryz.SS w1 p s st 0 (.ok a (d :: q) i : Re α)) := h1; have H1 := Tryz.SS.c h1; obtain ⟨c0, c1, fz, hil, hsl, hdd⟩ := H1; clear h1 fz c0 hdd) | fail)
        go_ret
        exact ⟨by rw [HV.out.1]; rfl, by rw [HV.out.2]; exact HH.out, hw1, HC.out⟩
end Go.Proofs
namespace Go.Wb
open Go.RowKit Go.Wi Go.Proofs
theorem Hx.start {α : Type} {R : Re α} {s : List UInt8} {i0 most : Nat} (hil : i0 ≤ s.length) (h : ∀ a r j, R = .ok a r j → j = i0) : Hx s i0 i0 most 0 (R.bind fun _ r i => .ok 0 r i) (R.bind fun _ r i => hexD most i0 0 r i) := by
  refine ⟨Nat.le_refl _, hil, fun a r j e => ?_, by rw [bind_bind]; rfl, Nat.zero_le _⟩
  cases R with
  | bad a e2 => cases e
  | more => cases e
  | ok a2 r2 j2 =>
    injection e with e1 e2 e3
    have := h _ _ _ rfl
    subst e1 e3
    exact ⟨this, by omega, by unfold capd; rw [if_neg (by omega)]⟩
theorem Hx.dead {s : List UInt8} {i0 i most k : Nat} {S T : Re Nat} (h : Hx s i0 i most k S T) (hd : deadR T = true) : Hy s i0 i most k T :=
  ⟨h.le, h.il, fun a r j e => absurd e (dead_nok hd a r j), h.kle⟩
theorem Hx.move {s : List UInt8} {i0 i most k x n : Nat} {d : UInt8} {q : List UInt8} {T : Re Nat} (h : Hx s i0 i most k (.ok n (d :: q) i) T) (hs : d :: q = s.drop i) (hm : ¬ (d.toNat ≠ 13 ∧ i = i0 + 64)) (hx : hexd d = some x) : Hx s i0 (i + 1) most (if most < k * 16 + x then most + 1 else k * 16 + x) (.ok (grown most n 16 x) q (i + 1)) T := by
  obtain ⟨_, h2, h3⟩ := h.at_ _ _ _ rfl
  have h13 : d.toNat ≠ 13 := by
    intro e
    have : d = 13 := UInt8.toNat_inj.1 e
    rw [this] at hx
    revert hx
    show ¬ hexd 13 = some x
    have : hexd 13 = none := by decide
    rw [this]; exact fun e => by cases e
  refine ⟨by have := h.le; omega, ?_, ?_, ?_, by split <;> omega⟩
  · rcases Nat.lt_or_ge i s.length with e | e
    · exact e
    · rw [List.drop_eq_nil_iff.2 e] at hs; cases hs
  · rintro a r j ⟨⟩
    exact ⟨rfl, by have : ¬ i = i0 + 64 := fun e => hm ⟨h13, e⟩; omega, by rw [capd_grown, h3]⟩
  · rw [← h.all, bind_ok_eq, bind_ok_eq, hexD_cons, if_neg hm, hx]
theorem Hx.stop {s : List UInt8} {i0 i most k n : Nat} {d : UInt8} {q : List UInt8} {T : Re Nat} (h : Hx s i0 i most k (.ok n (d :: q) i) T) (hm : ¬ (d.toNat ≠ 13 ∧ i = i0 + 64)) (hx : hexd d = none) : T = .ok n (d :: q) i ∧ Hy s i0 i most k T := by
  have e : T = .ok n (d :: q) i := by rw [← h.all, bind_ok_eq, hexD_cons, if_neg hm, hx]
  obtain ⟨h1, h2, h3⟩ := h.at_ _ _ _ rfl
  refine ⟨e, h.le, h.il, fun a r j e2 => ?_, h.kle⟩
  rw [e] at e2
  injection e2 with e3 e4 e5
  subst e3 e4 e5
  exact ⟨h1, h2, h3, d, q, rfl, hm⟩
/-- The number of a size that was read. -/
theorem size_num {s : List UInt8} {i0 i most k : Nat} {T : Re Nat} (h : Hy s i0 i most k T) : NumOk k (most + 1) ((sizeR i0 T).bind fun n r j => .ok (capd most n) r j) := by
  refine ⟨h.kle, fun a r j e => ?_⟩
  cases T with
  | bad a e2 => cases e
  | more => cases e
  | ok n r2 j2 =>
    obtain ⟨b, r3, j3, e1, e2⟩ := bind_ok e
    injection e2 with e2
    unfold sizeR at e1
    rw [bind_ok_eq] at e1
    by_cases hj : j2 = i0
    · rw [if_pos hj] at e1; cases e1
    · rw [if_neg hj] at e1
      obtain ⟨_, r4, j4, _, e1⟩ := bind_ok e1
      obtain ⟨_, r5, j5, _, e1⟩ := bind_ok e1
      injection e1 with e1
      rw [← e2, ← e1]
      exact ((h.at_ _ _ _ rfl).2.2.1).symm
theorem sizeR_zero {s : List UInt8} {i0 most k : Nat} {T : Re Nat} (h : Hy s i0 i0 most k T) : ∀ x : Sn, Fitt x (((T.bind fun _ _ _ => (.bad i0 180 : Re Nat))).bind fun _ r i => endD (-1) r i) → Fitt x (sizeR i0 T) := by
  intro x hx
  cases T with
  | bad a e => exact hx
  | more => exact hx
  | ok n r j =>
    obtain ⟨rfl, -⟩ := h.at_ _ _ _ rfl
    show Fitt x (if j = j then _ else _)
    rw [if_pos rfl]
    exact hx
theorem sizeR_other {i0 j n : Nat} {d : UInt8} {q : List UInt8} (hj : ¬ j = i0) (hd : ¬ d = 59) : ∀ x : Sn, Fitt x ((Re.ok n (d :: q) j : Re Nat).bind fun _ r i => endD (-1) r i) → Fitt x (sizeR i0 (.ok n (d :: q) j)) := by
  intro x hx
  show Fitt x (if j = i0 then _ else (if d = 59 then exlD i0 (d :: q) j else .ok () (d :: q) j : Re Unit).bind _)
  rw [if_neg hj, if_neg hd, bind_ok_eq]
  rw [bind_ok_eq] at hx
  revert hx
  cases endD (-1) (d :: q) j <;> exact id
theorem sizeR_ext {i0 j n : Nat} {d : UInt8} {q : List UInt8} (hj : ¬ j = i0) (hd : d = 59) : ∀ x : Sn, Fitt x ((exlD i0 (d :: q) j).bind fun _ r i => endD (-1) r i) → Fitt x (sizeR i0 (.ok n (d :: q) j)) := by
  intro x hx
  show Fitt x (if j = i0 then _ else (if d = 59 then exlD i0 (d :: q) j else .ok () (d :: q) j : Re Unit).bind _)
  rw [if_neg hj, if_pos hd]
  revert hx
  cases exlD i0 (d :: q) j with
  | bad a e => exact id
  | more => exact id
  | ok u r k =>
    rw [bind_ok_eq, bind_ok_eq]
    cases endD (-1) r k <;> exact id
/-- Within what stands behind a size. -/
structure Ex (s : List UInt8) (i0 i : Nat) (S X : Re Unit) : Prop where
  le : i0 ≤ i
  at_ : ∀ a r j, S = .ok a r j → j = i ∧ j ≤ i0 + 64 ∧ j ≤ s.length
  all : (S.bind fun _ r i => exlD i0 r i) = X
theorem Ex.move {s : List UInt8} {i0 i : Nat} {d : UInt8} {q : List UInt8} {X : Re Unit} (h : Ex s i0 i (.ok () (d :: q) i) X) (hs : d :: q = s.drop i) (hm : ¬ (d.toNat ≠ 13 ∧ i = i0 + 64)) (hx : txt d = true) : Ex s i0 (i + 1) (.ok () q (i + 1)) X := by
  obtain ⟨_, h2, _⟩ := h.at_ _ _ _ rfl
  have h13 : d.toNat ≠ 13 := by
    intro e
    have : d = 13 := UInt8.toNat_inj.1 e
    rw [this] at hx
    revert hx
    decide
  refine ⟨by have := h.le; omega, ?_, ?_⟩
  · rintro a r j ⟨⟩
    refine ⟨rfl, by have : ¬ i = i0 + 64 := fun e => hm ⟨h13, e⟩; omega, ?_⟩
    rcases Nat.lt_or_ge i s.length with e | e
    · exact e
    · rw [List.drop_eq_nil_iff.2 e] at hs; cases hs
  · rw [← h.all, bind_ok_eq, bind_ok_eq, exlD_cons, if_neg hm, if_pos hx]
theorem Ex.stop {s : List UInt8} {i0 i : Nat} {d : UInt8} {q : List UInt8} {X : Re Unit} (h : Ex s i0 i (.ok () (d :: q) i) X) (hm : ¬ (d.toNat ≠ 13 ∧ i = i0 + 64)) (hx : txt d = false) : X = .ok () (d :: q) i := by
  rw [← h.all, bind_ok_eq, exlD_cons, if_neg hm, if_neg (by rw [hx]; decide)]
theorem hexI_some {d : UInt8} {x : Nat} (h : hexd d = some x) : hexI d = (x : Int) := by unfold hexI; rw [h]
theorem hexI_none {d : UInt8} (h : hexd d = none) : hexI d = -1 := by unfold hexI; rw [h]
end Go.Wb
namespace Go.Proofs
open Go.RowKit Go.Wi Go.Wb
theorem Tryz.SS.fit {α β : Type} {w : World} {p : Nat} {s : List UInt8} {st li : Nat} {R : Re α} {S : Re β} (h : Tryz.SS w p s st li R) (g : ∀ x : Sn, Fitt x R → Fitt x S) : Tryz.SS w p s st li S := by
  obtain ⟨x, h1, h2, h3⟩ := h.ex
  exact ⟨x, h1, h2, g x h3⟩
set_option maxRecDepth 20000 in
set_option maxHeartbeats 4000000 in
theorem Tryz.ssSize {α : Type} {w : World} {p : Nat} {s : List UInt8} {st : Nat} {R : Re α} (h : Tryz.SS w p s st 0 R) (most : Nat) (hm : most ≤ 999999999) :
    Calls Tryz.prog 96 #[.pointer (some ⟨p, 0, none⟩), .int .i64 most] w fun e w' => ∃ v : Nat, e = .returned (.int .i64 v) ∧ NumOk v (most + 1) ((R.bind fun _ r i => sizeD most r i).bind fun n r j => .ok (capd most n) r j) ∧ Tryz.SS w' p s st 0 (R.bind fun _ r i => sizeD most r i) ∧ Wo (fun k => k = p) w w' := by
  obtain ⟨i0, c0, c1, fz, hil, hsl, hj⟩ := Tryz.SS.place h
  obtain ⟨T, hT⟩ : ∃ T, (R.bind fun _ r i => hexD most i0 0 r i) = T := ⟨_, rfl⟩
  have HT : Hid ((R.bind fun _ r i => sizeD most r i) = sizeR i0 T) := (by show _ = _; rw [← hT]; exact size_is hj)
  have HS : Hid (Tryz.SS w p s st 0 (R.bind fun _ r i => (.ok 0 r i : Re Nat))) := Tryz.SS.val h 0
  have HX : Hid (Hx s i0 i0 most 0 (R.bind fun _ r i => (.ok 0 r i : Re Nat)) T) := (by have := Hx.start (most := most) hil hj; rw [hT] at this; exact this)
  have HC : Hid (w.cell? ⟨p, 1, none⟩ = some (.int .i64 i0)) := c1
  clear h hj c0 fz hT
  go_enter Tryz.func96, Tryz.ntmps96
  go_upto_block 0 with (fail)
  clear c1
  go_cut [6] (fun nv wx => ∃ i k : Nat, nv = .int .i64 k ∧ Tryz.SS wx p s st 0 T ∧ wx.cell? ⟨p, 1, none⟩ = some (.int .i64 i) ∧ Hy s i0 i most k T ∧ Wo (fun k => k = p) w wx)
  case first =>
    clear HT
    go_wp2
    go_loopw [6, 7, 8] (fun nv _ _ wr => ∃ (S : Re Nat) (i k : Nat), nv = .int .i64 k ∧ Tryz.SS wr p s st 0 S ∧ wr.cell? ⟨p, 1, none⟩ = some (.int .i64 i) ∧ Hx s i0 i most k S T ∧ Wo (fun k => k = p) w wr) (fun _ _ _ wr => s.length - placeN wr p)
    case atStart => exact ⟨_, i0, 0, rfl, HS.out, HC.out, HX.out, Wo.refl _ _⟩
    case round =>
      obtain ⟨S, i, k, rfl, h1, h2, h3, h5⟩ := hrel
      clear HC HX HS
      have HW : Hid (Wo (fun k => k = p) w wr) := h5
      have hkle := h3.kle
      have k1 := Tryz.ssLined h1 i0 (fun a r j e => by have := h3.at_ _ _ _ e; have := h3.le; omega)
      rcases lined_cases i0 S with hb | ⟨a, d, q, j, rfl, hmm, hb, hp⟩
      · rw [hb] at k1
        have HE : Hid (∀ w', Tryz.SS w' p s st 0 (linedR i0 S) → Tryz.SS w' p s st 0 T) := fun w' h => Tryz.SS.fit h fun x hx => by rw [← h3.all]; exact (lined_dead hb (hex_lk most i0) hx).1
        have HY : Hid (Hy s i0 i most k T) := (by
          refine h3.dead ?_
          obtain ⟨x, _, _, _⟩ := h1.ex
          rw [← h3.all]
          cases S with
          | bad a e => rfl
          | more => rfl
          | ok a r j =>
            cases r with
            | nil => rfl
            | cons d q =>
              rw [bind_ok_eq, hexD_cons]
              by_cases hi : d.toNat ≠ 13 ∧ j = i0 + 64
              · rw [if_pos hi]; rfl
              · have : linedI i0 (.ok a (d :: q) j) = ((d.toNat : Nat) : Int) := if_neg hi
                rw [this] at hb; omega)
        have HC2 : Hid (wr.cell? ⟨p, 1, none⟩ = some (.int .i64 i)) := h2
        have k3 := fun W => Tryz.rHex_neg W
        clear hb h1 h2 h3 h5
        go_wp2_with (first | (go_at_call 112; refine k1.mono ?_; clear k1; rintro e w1 ⟨rfl, g1, hw1, hc1⟩; have HC3 : Hid (w1.cell? ⟨p, 1, none⟩ = some (.int .i64 i)) := hc1.trans HC2.out; have HG : Hid (Tryz.SS w1 p s st 0 T) := HE.out w1 g1; clear HE hc1 g1 HC2) | (go_at_call 113; refine (k3 _).mono ?_; clear k3; rintro e w2 ⟨rfl, rfl⟩) | fail)
        go_meet
        exact ⟨i, k, rfl, HG.out, HC3.out, HY.out, HW.out.trans hw1⟩
      · obtain ⟨rfl, h64, hca⟩ := h3.at_ _ _ _ rfl
        rw [hb, hp] at k1
        have k3 := fun W => Tryz.rHex_any d W
        have hle := h3.le
        have hds := (Tryz.SS.c h1).2.2.2.2.2
        have hi : ¬ (j : Int) = bnd st 0 := by show ¬ (j : Int) = -1; omega
        cases hd : hexd d with
        | some x =>
          rw [hexI_some hd] at k3
          have hx15 := hexd_le hd
          have hn := h3.move hds hmm hd
          have HN : Hid (Hx s i0 (j + 1) most (if most < k * 16 + x then most + 1 else k * 16 + x) (.ok (grown most a 16 x) q (j + 1)) T) := hn
          have hjl := hn.il
          have HM : Hid (∀ w', Tryz.SS w' p s st 0 (.ok a (d :: q) j : Re Nat) → ∀ z : Int, z = (j : Int) + 1 → Tryz.SS (w'.setCell ⟨p, 1, none⟩ (.int .i64 z)) p s st 0 (.ok (grown most a 16 x) q (j + 1) : Re Nat)) := fun w' h z hz => Tryz.SS.move h hi _ z hz
          have HP : Hid (placeN wr p = j) := placeN_of h2
          have q0 : ¬ ((x : Int) < 0) := by omega
          clear hb hp h1 h3 h5 hi hds hd h2 hca hn hmm
          by_cases hbig : most < k * 16 + x
          · have q2 : (most : Int) < (k : Int) * 16 + (x : Int) := by omega
            have HI : Hid ((if most < k * 16 + x then most + 1 else k * 16 + x) = most + 1) := if_pos hbig
            clear hbig
            go_wp2_with (first | (go_at_call 112; refine k1.mono ?_; clear k1; rintro e w1 ⟨rfl, g1, hw1, hc1⟩; clear hc1; have HS : Hid (∀ z : Int, z = (j : Int) + 1 → Tryz.SS (w1.setCell ⟨p, 1, none⟩ (.int .i64 z)) p s st 0 (.ok (grown most a 16 x) q (j + 1) : Re Nat)) := HM.out w1 g1; clear HM; have H1 := Tryz.SS.c g1; obtain ⟨c0, c1, fz, _, _, hdd⟩ := H1; have f1 := fz 1; clear g1 fz c0 hdd) | (go_at_call 113; refine (k3 _).mono ?_; clear k3; rintro e w2 ⟨rfl, rfl⟩) | fail)
            go_roundw
            case rel => exact ⟨_, j + 1, most + 1, by simp, HS.out _ rfl, (Tryz.SS.c (HS.out _ rfl)).2.1, by rw [← HI.out]; exact HN.out, (HW.out.trans hw1).setCell p 1 _ (.inl rfl)⟩
            case measure =>
              rw [placeN_of (Tryz.SS.c (HS.out _ rfl)).2.1, HP.out]
              omega
          · have q2 : ¬ (most : Int) < (k : Int) * 16 + (x : Int) := by omega
            have HI : Hid ((if most < k * 16 + x then most + 1 else k * 16 + x) = k * 16 + x) := if_neg hbig
            clear hbig
            go_wp2_with (first | (go_at_call 112; refine k1.mono ?_; clear k1; rintro e w1 ⟨rfl, g1, hw1, hc1⟩; clear hc1; have HS : Hid (∀ z : Int, z = (j : Int) + 1 → Tryz.SS (w1.setCell ⟨p, 1, none⟩ (.int .i64 z)) p s st 0 (.ok (grown most a 16 x) q (j + 1) : Re Nat)) := HM.out w1 g1; clear HM; have H1 := Tryz.SS.c g1; obtain ⟨c0, c1, fz, _, _, hdd⟩ := H1; have f1 := fz 1; clear g1 fz c0 hdd) | (go_at_call 113; refine (k3 _).mono ?_; clear k3; rintro e w2 ⟨rfl, rfl⟩) | fail)
            go_roundw
            case rel => exact ⟨_, j + 1, k * 16 + x, by simp, HS.out _ rfl, (Tryz.SS.c (HS.out _ rfl)).2.1, by rw [← HI.out]; exact HN.out, (HW.out.trans hw1).setCell p 1 _ (.inl rfl)⟩
            case measure =>
              rw [placeN_of (Tryz.SS.c (HS.out _ rfl)).2.1, HP.out]
              omega
        | none =>
          rw [hexI_none hd] at k3
          obtain ⟨hTT, hy⟩ := h3.stop hmm hd
          have HY : Hid (Hy s i0 j most k T) := hy
          have HE : Hid (∀ w', Tryz.SS w' p s st 0 (.ok a (d :: q) j : Re Nat) → Tryz.SS w' p s st 0 T) := fun w' h => (by rw [hTT]; exact h)
          have HC2 : Hid (wr.cell? ⟨p, 1, none⟩ = some (.int .i64 j)) := h2
          clear hb hp h1 h3 h5 hi hds hd h2 hca hmm hTT hy
          go_wp2_with (first | (go_at_call 112; refine k1.mono ?_; clear k1; rintro e w1 ⟨rfl, g1, hw1, hc1⟩; have HC3 : Hid (w1.cell? ⟨p, 1, none⟩ = some (.int .i64 j)) := hc1.trans HC2.out; have HG : Hid (Tryz.SS w1 p s st 0 T) := HE.out w1 g1; clear HE hc1 g1 HC2) | (go_at_call 113; refine (k3 _).mono ?_; clear k3; rintro e w2 ⟨rfl, rfl⟩) | fail)
          go_meet
          exact ⟨j, k, rfl, HG.out, HC3.out, HY.out, HW.out.trans hw1⟩
  case rest =>
    obtain ⟨i, k, rfl, h1, h2, h3, h5⟩ := hcut
    clear HC HX HS
    have HW : Hid (Wo (fun k => k = p) w wc) := h5
    have HNUM : Hid (NumOk k (most + 1) ((R.bind fun _ r i => sizeD most r i).bind fun n r j => .ok (capd most n) r j)) := (by show NumOk _ _ _; rw [HT.out]; exact size_num h3)
    by_cases hii : i = i0
    · subst hii
      have q5 : (((i : Nat) : Int) == (i : Int)) = true := by simp
      have k2 := Tryz.ssFail Nat h1 i 180 (by decide)
      have HFIN : Hid (∀ w', Tryz.SS w' p s st 0 (((T.bind fun _ _ _ => (.bad i 180 : Re Nat))).bind fun _ r i => endD (bnd st 0) r i) → Tryz.SS w' p s st 0 (R.bind fun _ r i => sizeD most r i)) := fun w' h => (by rw [HT.out]; exact Tryz.SS.fit h (sizeR_zero h3))
      have HD : Hid (∀ w', Tryz.SS w' p s st 0 (linedR i (T.bind fun _ _ _ => (.bad i 180 : Re Nat))) → Tryz.SS w' p s st 0 (T.bind fun _ _ _ => (.bad i 180 : Re Nat))) := fun w' h => (by cases T <;> exact h)
      have hli : linedI i (T.bind fun _ _ _ => (.bad i 180 : Re Nat)) = -1 := by cases T <;> rfl
      have HK : Hid (∀ w', Tryz.SS w' p s st 0 (T.bind fun _ _ _ => (.bad i 180 : Re Nat)) → Calls Tryz.prog 112 #[.pointer (some ⟨p, 0, none⟩), .int .i64 i] w' fun e w'' => e = .returned (.int .i64 (-1)) ∧ Tryz.SS w'' p s st 0 (T.bind fun _ _ _ => (.bad i 180 : Re Nat)) ∧ Wo (fun k => k = p) w' w'') := fun w' h => (by
        refine (Tryz.ssLined h i (fun a r j e => by cases T <;> cases e)).mono ?_
        rintro e w1 ⟨rfl, g1, g2, g3⟩
        exact ⟨by rw [hli], HD.out _ g1, g2⟩)
      have c1 := h2
      clear h1 h2 h3 h5 hli HD
      go_wp2_with (first | (go_at_call 67; refine k2.mono ?_; clear k2 c1; rintro e w1 ⟨⟨v, rfl⟩, g1, hw1, hc1⟩; clear hc1; have k3 := HK.out w1 g1; clear g1 HK) | (go_at_call 112; refine k3.mono ?_; clear k3; rintro e w2 ⟨rfl, g2, hw2⟩; have k4 := Tryz.ssEnd g2; clear g2) | (go_at_call 63; refine k4.mono ?_; clear k4; rintro e w3 ⟨⟨v3, rfl⟩, g3, hw3⟩) | fail)
      go_ret
      exact ⟨k, rfl, HNUM.out, HFIN.out _ g3, ((HW.out.trans hw1).trans hw2).trans hw3⟩
    · have q5 : (((i : Nat) : Int) == (i0 : Int)) = false := by simp; omega
      have c1 := h2
      have k3 := Tryz.ssLined h1 i0 (fun a r j e => by have := h3.at_ _ _ _ e; have := h3.le; omega)
      cases hdT : deadR T with
      | true =>
        have hli : linedI i0 T = -1 := by cases T <;> first | rfl | cases hdT
        have HFIN : Hid (∀ w', Tryz.SS w' p s st 0 ((linedR i0 T).bind fun _ r i => endD (bnd st 0) r i) → Tryz.SS w' p s st 0 (R.bind fun _ r i => sizeD most r i)) := fun w' h => (by rw [HT.out]; refine Tryz.SS.fit h ?_; intro x hx; cases T <;> first | exact hx | cases hdT)
        rw [hli] at k3
        clear h1 h2 h3 h5 hli hdT hii
        go_wp2_with (first | (go_at_call 112; refine k3.mono ?_; clear k3 c1; rintro e w2 ⟨rfl, g2, hw2, hc2⟩; clear hc2; have k4 := Tryz.ssEnd g2; clear g2) | (go_at_call 63; refine k4.mono ?_; clear k4; rintro e w3 ⟨⟨v3, rfl⟩, g3, hw3⟩) | fail)
        go_ret
        exact ⟨k, rfl, HNUM.out, HFIN.out _ g3, (HW.out.trans hw2).trans hw3⟩
      | false =>
        cases T with
        | bad a e => cases hdT
        | more => cases hdT
        | ok n r j =>
          obtain ⟨rfl, h64, hcap, d, q, rfl, hmm⟩ := h3.at_ _ _ _ rfl
          have hli : linedI i0 (.ok n (d :: q) j) = ((d.toNat : Nat) : Int) := if_neg hmm
          have hlr : linedR i0 (.ok n (d :: q) j : Re Nat) = .ok n (d :: q) j := if_neg hmm
          rw [hli, hlr] at k3
          have hle := h3.le
          have hjl := h3.il
          by_cases h59 : d = 59
          · have q6 : (((d.toNat : Nat) : Int) == 59) = true := by rw [h59]; rfl
            have HFIN : Hid (∀ w', Tryz.SS w' p s st 0 ((exlD i0 (d :: q) j).bind fun _ r i => endD (bnd st 0) r i) → Tryz.SS w' p s st 0 (R.bind fun _ r i => sizeD most r i)) := fun w' h => (by rw [HT.out]; exact Tryz.SS.fit h (sizeR_ext hii h59))
            have HEX : Hid (Ex s i0 j (.ok () (d :: q) j) (exlD i0 (d :: q) j)) := ⟨hle, fun a r jj e => by injection e with e1 e2 e3; subst e3; exact ⟨rfl, h64, hjl⟩, rfl⟩
            obtain ⟨X, hX⟩ : ∃ X, exlD i0 (d :: q) j = X := ⟨_, rfl⟩
            have HC2 : Hid (wc.cell? ⟨p, 1, none⟩ = some (.int .i64 j)) := h2
            rw [hX] at HFIN HEX
            clear h1 h2 h3 h5 hli hlr hdT hii h59 hcap hmm hX
            go_wp2_with (first | (go_at_call 112; refine k3.mono ?_; clear k3 c1; rintro e w2 ⟨rfl, g2, hw2, hc2⟩; have HC3 : Hid (w2.cell? ⟨p, 1, none⟩ = some (.int .i64 j)) := hc2.trans HC2.out; clear hc2 HC2; have HS2 : Hid (Tryz.SS w2 p s st 0 (.ok () (d :: q) j : Re Unit)) := Tryz.SS.val g2 (); clear g2) | fail)
            go_loopw [9, 10] (fun _ _ wr => ∃ (S : Re Unit) (i : Nat), Tryz.SS wr p s st 0 S ∧ wr.cell? ⟨p, 1, none⟩ = some (.int .i64 i) ∧ Ex s i0 i S X ∧ Wo (fun k => k = p) w wr) (fun _ _ wr => s.length - placeN wr p)
            case atStart => exact ⟨_, j, HS2.out, HC3.out, HEX.out, HW.out.trans hw2⟩
            case round =>
              obtain ⟨S, i, h1, h2, h3, h5⟩ := hrel
              clear HC3 HEX HS2 HW
              have HW : Hid (Wo (fun k => k = p) w wr) := h5
              have k1 := Tryz.ssLined h1 i0 (fun a r j e => by have := h3.at_ _ _ _ e; have := h3.le; omega)
              rcases lined_cases i0 S with hb | ⟨a, d2, q2, j2, rfl, hmm, hb, hp⟩
              · rw [hb] at k1
                have HE : Hid (∀ w', Tryz.SS w' p s st 0 (linedR i0 S) → Tryz.SS w' p s st 0 X) := fun w' h => Tryz.SS.fit h fun x hx => by rw [← h3.all]; exact (lined_dead hb (ext_lk i0) hx).1
                have k3 := fun W => Tryz.rVal_neg W
                clear hb h1 h2 h3 h5
                go_wp2_with (first | (go_at_call 112; refine k1.mono ?_; clear k1; rintro e w3 ⟨rfl, g3, hw3, hc3⟩; clear hc3; have k4 := Tryz.ssEnd (HE.out _ g3); clear g3 HE) | (go_at_call 90; refine (k3 _).mono ?_; clear k3; rintro e w4 ⟨rfl, rfl⟩) | (go_at_call 63; refine k4.mono ?_; clear k4; rintro e w5 ⟨⟨v3, rfl⟩, g5, hw5⟩) | fail)
                go_ret
                exact ⟨k, rfl, HNUM.out, HFIN.out _ g5, (HW.out.trans hw3).trans hw5⟩
              · obtain ⟨rfl, h64b, hjl2⟩ := h3.at_ _ _ _ rfl
                rw [hb, hp] at k1
                have k3 := fun W => Tryz.rVal_any d2 W
                have hds := (Tryz.SS.c h1).2.2.2.2.2
                have hi : ¬ (j2 : Int) = bnd st 0 := by show ¬ (j2 : Int) = -1; omega
                cases hd : txt d2 with
                | true =>
                  rw [hd] at k3
                  have hn := h3.move hds hmm hd
                  have hnl := (hn.at_ _ _ _ rfl).2.2
                  have HN : Hid (Ex s i0 (j2 + 1) (.ok () q2 (j2 + 1)) X) := hn
                  have HM : Hid (∀ w', Tryz.SS w' p s st 0 (.ok a (d2 :: q2) j2 : Re Unit) → ∀ z : Int, z = (j2 : Int) + 1 → Tryz.SS (w'.setCell ⟨p, 1, none⟩ (.int .i64 z)) p s st 0 (.ok () q2 (j2 + 1) : Re Unit)) := fun w' h z hz => Tryz.SS.move h hi () z hz
                  have HP : Hid (placeN wr p = j2) := placeN_of h2
                  clear hb hp h1 h3 h5 hi hds hd h2 hmm hn
                  go_wp2_with (first | (go_at_call 112; refine k1.mono ?_; clear k1; rintro e w3 ⟨rfl, g1, hw3, hc1⟩; clear hc1; have HS : Hid (∀ z : Int, z = (j2 : Int) + 1 → Tryz.SS (w3.setCell ⟨p, 1, none⟩ (.int .i64 z)) p s st 0 (.ok () q2 (j2 + 1) : Re Unit)) := HM.out w3 g1; clear HM; have H1 := Tryz.SS.c g1; obtain ⟨c0, c1, fz, _, _, hdd⟩ := H1; have f1 := fz 1; clear g1 fz c0 hdd) | (go_at_call 90; refine (k3 _).mono ?_; clear k3; rintro e w4 ⟨rfl, rfl⟩) | fail)
                  go_roundw
                  case rel => exact ⟨_, j2 + 1, HS.out _ rfl, (Tryz.SS.c (HS.out _ rfl)).2.1, HN.out, (HW.out.trans hw3).setCell p 1 _ (.inl rfl)⟩
                  case measure =>
                    rw [placeN_of (Tryz.SS.c (HS.out _ rfl)).2.1, HP.out]
                    omega
                | false =>
                  rw [hd] at k3
                  have hXX := h3.stop hmm hd
                  have HE : Hid (∀ w', Tryz.SS w' p s st 0 (.ok a (d2 :: q2) j2 : Re Unit) → Tryz.SS w' p s st 0 X) := fun w' h => (by rw [hXX]; exact h)
                  clear hb hp h1 h3 h5 hi hds hd h2 hmm hXX
                  go_wp2_with (first | (go_at_call 112; refine k1.mono ?_; clear k1; rintro e w3 ⟨rfl, g3, hw3, hc3⟩; clear hc3; have k4 := Tryz.ssEnd (HE.out _ g3); clear g3 HE) | (go_at_call 90; refine (k3 _).mono ?_; clear k3; rintro e w4 ⟨rfl, rfl⟩) | (go_at_call 63; refine k4.mono ?_; clear k4; rintro e w5 ⟨⟨v3, rfl⟩, g5, hw5⟩) | fail)
                  go_ret
                  exact ⟨k, rfl, HNUM.out, HFIN.out _ g5, (HW.out.trans hw3).trans hw5⟩
          · have q6 : (((d.toNat : Nat) : Int) == 59) = false := by
              simp only [beq_eq_false_iff_ne, ne_eq]
              exact fun e => h59 (UInt8.toNat_inj.1 (by show d.toNat = 59; omega))
            have HFIN : Hid (∀ w', Tryz.SS w' p s st 0 ((Re.ok n (d :: q) j : Re Nat).bind fun _ r i => endD (bnd st 0) r i) → Tryz.SS w' p s st 0 (R.bind fun _ r i => sizeD most r i)) := fun w' h => (by rw [HT.out]; exact Tryz.SS.fit h (sizeR_other hii h59))
            clear h1 h2 h3 h5 hli hlr hdT hii h59 hcap hmm
            go_wp2_with (first | (go_at_call 112; refine k3.mono ?_; clear k3 c1; rintro e w2 ⟨rfl, g2, hw2, hc2⟩; clear hc2; have k4 := Tryz.ssEnd g2; clear g2) | (go_at_call 63; refine k4.mono ?_; clear k4; rintro e w3 ⟨⟨v3, rfl⟩, g3, hw3⟩) | fail)
            go_ret
            exact ⟨k, rfl, HNUM.out, HFIN.out _ g3, (HW.out.trans hw2).trans hw3⟩
end Go.Proofs
namespace Go.Wb
open Go.RowKit Go.Wi Go.Proofs
/-- Where there is fuel enough, it does not matter how much. -/
theorem headers_fuel (b : Int) (n : Nat) : ∀ (m : Nat) (out : Hdl) (r : List UInt8) (i : Nat), r.length ≤ n → r.length ≤ m → headersD b (n + 1) out r i = headersD b (m + 1) out r i := by
  induction n with
  | zero =>
    intro m out r i h1 _
    cases r with
    | nil => rfl
    | cons c q => simp at h1
  | succ n ih =>
    intro m out r i h1 h2
    cases r with
    | nil => rfl
    | cons c q =>
      cases m with
      | zero => simp at h2
      | succ m =>
        rw [headersD_cons, headersD_cons]
        by_cases e1 : (i : Int) = b
        · rw [if_pos e1, if_pos e1]
        · rw [if_neg e1, if_neg e1]
          by_cases e2 : c = 13
          · rw [if_pos e2, if_pos e2]
          · rw [if_neg e2, if_neg e2]
            by_cases e3 : out.length = 32
            · rw [if_pos e3, if_pos e3]
            · rw [if_neg e3, if_neg e3]
              cases hx : lineD b (c :: q) i with
              | bad a e => rfl
              | more => rfl
              | ok x r2 j =>
                have := lineD_short hx
                rw [bind_ok_eq, bind_ok_eq]
                exact ih m _ _ _ (by omega) (by omega)
theorem capd_add {most n b : Nat} : most < b + capd most n ↔ most < n + b := by
  unfold capd
  split <;> omega
theorem capd_zero {most n : Nat} : capd most n = 0 ↔ n = 0 := by
  unfold capd
  split <;> omega
theorem capd_eq {most n : Nat} (h : ¬ most < n) : capd most n = n := if_neg h
theorem cat2n (a b : List UInt8) : (⟨a.toArray⟩ : ByteArray) ++ ⟨b.toArray⟩ = ⟨(a ++ b).toArray⟩ := by
  apply ByteArray.ext
  simp [ByteArray.data_append]
abbrev Chx := List UInt8 × List (List UInt8 × List UInt8) × Nat
/-- What follows a chunk's size. -/
def chunkG (most n : Nat) (body : List UInt8) (i : Nat) (s : Nat) (r : List UInt8) (j : Nat) : Re Chx :=
  if most < s + body.length then .bad i 182
  else if s = 0 then (headersD ((j : Int) + 2048) (r.length + 1) [] r j).bind fun o r k => .ok (body, o, j) r k
  else (someD s r j).bind fun x r j => (endD (-1) r j).bind fun _ r j => chunksD most n (body ++ x) r j
theorem chunksD_next (most n : Nat) (body l : List UInt8) (i : Nat) : chunksD most (n + 1) body l i = (sizeD most l i).bind fun s r j => chunkG most n body i s r j := rfl
end Go.Wb
namespace Go.Proofs
open Go.RowKit Go.Wi Go.Wb
theorem Tryz.SS.cl {α : Type} {w : World} {p : Nat} {s : List UInt8} {st li : Nat} {R : Re α} (h : Tryz.SS w p s st li R) : w.cell? ⟨p, 2, none⟩ = some (.int .i64 st) ∧ w.cell? ⟨p, 3, none⟩ = some (.int .i64 li) ∧ w.frozen? ⟨p, 2, none⟩ = false ∧ w.frozen? ⟨p, 3, none⟩ = false := by
  obtain ⟨x, h1, h2, h3⟩ := h.ex
  obtain ⟨c0, c1, c2, c3, _⟩ := Tryz.Sc.c h1
  rw [h2.sta] at c2
  rw [h2.lmt] at c3
  exact ⟨c2, c3, Tryz.Sc.fz h1 2, Tryz.Sc.fz h1 3⟩
/-- A head begins. -/
theorem Tryz.SS.head {α : Type} {w : World} {p : Nat} {s : List UInt8} {st : Nat} {a : α} {r : List UInt8} {i : Nat} (h : Tryz.SS w p s st 0 (.ok a r i : Re α)) : Tryz.SS ((w.setCell ⟨p, 2, none⟩ (.int .i64 i)).setCell ⟨p, 3, none⟩ (.int .i64 2048)) p s i 2048 (.ok a r i : Re α) := by
  obtain ⟨x, h1, h2, h3⟩ := h.ex
  have g1 : Tryz.Sc (w.setCell ⟨p, 2, none⟩ (.int .i64 i)) p { x with start := i } := heap_setCell_same w p 2 _ _ (.int .i64 i) h1
  have g2 : Tryz.Sc ((w.setCell ⟨p, 2, none⟩ (.int .i64 i)).setCell ⟨p, 3, none⟩ (.int .i64 2048)) p { x with start := i, limit := 2048 } := heap_setCell_same _ p 3 _ _ (.int .i64 2048) g1
  have hi := h3.2.2.2.1
  exact ⟨_, g2, ⟨h2.tx, rfl, rfl, h2.len, h2.i, Nat.le_of_eq hi.symm, Nat.le_refl _, fun _ => by show x.i ≤ i + 2048; omega⟩, h3⟩
/-- A head has ended. -/
theorem Tryz.SS.tail {α : Type} {w : World} {p : Nat} {s : List UInt8} {st li : Nat} {R : Re α} (h : Tryz.SS w p s st li R) : Tryz.SS (w.setCell ⟨p, 3, none⟩ (.int .i64 0)) p s st 0 R := by
  obtain ⟨x, h1, h2, h3⟩ := h.ex
  have g2 : Tryz.Sc (w.setCell ⟨p, 3, none⟩ (.int .i64 0)) p { x with limit := 0 } := heap_setCell_same _ p 3 _ _ (.int .i64 0) h1
  refine ⟨_, g2, ⟨h2.tx, h2.sta, rfl, h2.len, h2.i, h2.sti, Nat.zero_le _, fun e => absurd rfl e⟩, ?_⟩
  cases R <;> exact h3
/-- In the midst of chunks. -/
structure Tryz.ChIn (w wr : World) (p : Nat) (s : List UInt8) (st most : Nat) (T : Re Chx) (S : Re Unit) (body : List UInt8) (n : Nat) : Prop where
  ss : Tryz.SS wr p s st 0 S
  fuel : ∀ u r i, S = .ok u r i → r.length ≤ n
  all : (S.bind fun _ r i => chunksD most (n + 1) body r i) = T
  len : body.length ≤ most
  wo : Wo (fun k => k = p) w wr
theorem endD_two {l r : List UInt8} {b : Int} {i j : Nat} {u : Unit} (h : endD b l i = .ok u r j) : r.length ≤ l.length := (endD_len h).1 |> fun e => by omega
set_option maxRecDepth 20000 in
set_option maxHeartbeats 4000000 in
theorem Tryz.ssChunks {α : Type} {w : World} {p : Nat} {s : List UInt8} {st : Nat} {R : Re α} (h : Tryz.SS w p s st 0 R) (hs47 : s.length ≤ 140737488355328) (most : Nat) (hm : most ≤ 999999999) (N : Nat) (hN : ∀ a r i, R = .ok a r i → r.length ≤ N) :
    Calls Tryz.prog 74 #[.pointer (some ⟨p, 0, none⟩), .int .i64 most] w fun e w' => ∃ (v : List UInt8) (st2 : Nat), e = .returned (.string ⟨v.toArray⟩) ∧ v.length ≤ most ∧ (∀ x r k, (R.bind fun _ r i => chunksD most (N + 1) [] r i) = .ok x r k → v = x.1) ∧ Tryz.SS w' p s st2 0 (R.bind fun _ r i => chunksD most (N + 1) [] r i) ∧ Wo (fun k => k = p) w w' := by
  have hin : Tryz.ChIn w w p s st most (R.bind fun _ r i => chunksD most (N + 1) [] r i) (R.bind fun _ r i => .ok () r i) [] N :=
    ⟨Tryz.SS.val h (), fun u r i e => (by
      cases R with
      | bad a e2 => cases e
      | more => cases e
      | ok a2 r2 i2 =>
        injection e with _ e1 e2
        subst e1
        exact hN _ _ _ rfl), by rw [bind_bind]; rfl, Nat.zero_le _, Wo.refl _ _⟩
  generalize (R.bind fun _ r i => chunksD most (N + 1) [] r i) = T at *
  have HI : Hid (Tryz.ChIn w w p s st most T (R.bind fun _ r i => .ok () r i) [] N) := hin
  clear hin h hN
  go_enter Tryz.func74, Tryz.ntmps74
  go_wp2
  go_loopw [5, 6, 7] (fun bv _ _ wr => ∃ S body n, bv = .string ⟨body.toArray⟩ ∧ Tryz.ChIn w wr p s st most T S body n) (fun _ _ _ wr => liveN s wr p)
  case atStart => exact ⟨_, [], _, rfl, HI.out⟩
  case round =>
    obtain ⟨S, body, n, rfl, h⟩ := hrel
    clear HI
    have HW : Hid (Wo (fun k => k = p) w wr) := h.wo
    have hlen := h.len
    have hbz : (⟨body.toArray⟩ : ByteArray).size = body.length := text_size body
    obtain ⟨i, c0, c1, fz, hil, hsl, hj⟩ := Tryz.SS.place h.ss
    have k1 := Tryz.ssSize h.ss most hm
    cases hZ : deadR (S.bind fun _ r i => sizeD most r i) with
    | true =>
      have HD : Hid (∀ w', Tryz.SS w' p s st 0 (S.bind fun _ r i => sizeD most r i) → Tryz.SS w' p s st 0 T) := fun w' g => (by
        rw [← h.all]
        have e : (S.bind fun _ r i => chunksD most (n + 1) body r i) = (S.bind fun _ r k => sizeD most r k).bind fun s r j => chunkG most n body i s r j := by
          cases S with
          | bad a e => rfl
          | more => rfl
          | ok a r j => obtain rfl := hj _ _ _ rfl; rfl
        rw [e]
        exact Tryz.SS.deadTo g hZ _)
      have HNO : Hid (∀ x r k, T ≠ .ok x r k) := (by
        show ∀ x r k, T ≠ .ok x r k
        refine dead_nok ?_
        rw [← h.all]
        cases S with
        | bad a e => rfl
        | more => rfl
        | ok a r j =>
          rw [bind_ok_eq] at hZ
          rw [bind_ok_eq, chunksD_next]
          exact dead_bind hZ _)
      have HK : Hid (∀ w', Tryz.SS w' p s st 0 (S.bind fun _ r i => sizeD most r i) → Calls Tryz.prog 71 #[.pointer (some ⟨p, 0, none⟩)] w' fun e w'' => e = .returned (.bool true) ∧ w'' = w') := fun w' g => (by have := Tryz.ssOver g; rw [hZ] at this; exact this)
      clear h hZ c0 fz hj
      go_wp2_with (first | (go_at_call 96; refine k1.mono ?_; clear k1 c1; rintro e w1 ⟨v, rfl, hv, g1, hw1⟩; have k2 := HK.out w1 g1; clear hv HK) | (go_at_call 71; refine k2.mono ?_; clear k2; rintro e w2 ⟨rfl, rfl⟩) | fail)
      go_ret
      exact ⟨[], st, rfl, Nat.zero_le _, fun x r k e => absurd e (HNO.out x r k), HD.out _ g1, HW.out.trans hw1⟩
    | false =>
      cases S with
      | bad a e => cases hZ
      | more => cases hZ
      | ok u r i2 =>
        obtain rfl := hj _ _ _ rfl
        have hliv : liveN s wr p = s.length - i2 + 1 := Tryz.SS.live h.ss
        have hfu := h.fuel _ _ _ rfl
        rw [bind_ok_eq] at k1 hZ
        cases hsz : sizeD most r i2 with
        | bad a e => rw [hsz] at hZ; cases hZ
        | more => rw [hsz] at hZ; cases hZ
        | ok sz r1 j1 =>
          obtain ⟨ha1, ha2⟩ := sizeD_at hsz
          have hT : chunkG most n body i2 sz r1 j1 = T := by rw [← h.all, bind_ok_eq, chunksD_next, hsz]; rfl
          have k1 : Calls Tryz.prog 96 #[.pointer (some ⟨p, 0, none⟩), .int .i64 most] wr fun e w' => e = .returned (.int .i64 (capd most sz)) ∧ Tryz.SS w' p s st 0 (.ok sz r1 j1 : Re Nat) ∧ Wo (fun k => k = p) wr w' := by
            refine k1.mono ?_
            rintro e w1 ⟨v, rfl, hv, g1, hw1⟩
            rw [hsz] at g1 hv
            rw [hv.is _ _ _ rfl]
            exact ⟨rfl, g1, hw1⟩
          have HK : Hid (∀ w', Tryz.SS w' p s st 0 (.ok sz r1 j1 : Re Nat) → Calls Tryz.prog 71 #[.pointer (some ⟨p, 0, none⟩)] w' fun e w'' => e = .returned (.bool false) ∧ w'' = w') := fun w' g => Tryz.ssOver g
          have hcl := capd_le most sz
          have hca := @capd_add most sz body.length
          have hcz := @capd_zero most sz
          have hce := @capd_eq most sz
          clear h hZ c0 fz hj hsz
          generalize capd most sz = V at *
          by_cases hbig : most < sz + body.length
          · have q1 : (most : Int) < (body.length : Int) + (V : Int) := by have := hca.2 hbig; omega
            have HF : Hid (∀ w', Tryz.SS w' p s st 0 (.ok sz r1 j1 : Re Nat) → Calls Tryz.prog 67 #[.pointer (some ⟨p, 0, none⟩), .int .i64 i2, .int .i64 182] w' fun e w'' => (∃ v, e = .returned v) ∧ Tryz.SS w'' p s st 0 T ∧ Wo (fun k => k = p) w' w'') := fun w' g => (by
              refine (Tryz.ssFail Chx g i2 182 (by decide)).mono ?_
              rintro e w1 ⟨hv, g1, g2, g3⟩
              refine ⟨hv, ?_, g2⟩
              rw [← hT]
              unfold chunkG
              rw [if_pos hbig]
              exact g1)
            have HNO : Hid (∀ x r k, T ≠ .ok x r k) := fun x r k e => (by rw [← hT] at e; unfold chunkG at e; rw [if_pos hbig] at e; cases e)
            clear hT hbig hca hcz hce
            go_wp2_with (first | (go_at_call 96; refine k1.mono ?_; clear k1 c1; rintro e w1 ⟨rfl, g1, hw1⟩; have k2 := HK.out w1 g1; have k3 := HF.out w1 g1; clear HK HF g1) | (go_at_call 71; refine k2.mono ?_; clear k2; rintro e w2 ⟨rfl, rfl⟩) | (go_at_call 67; refine k3.mono ?_; clear k3; rintro e w3 ⟨⟨v3, rfl⟩, g3, hw3⟩) | fail)
            go_ret
            exact ⟨[], st, rfl, Nat.zero_le _, fun x r k e => absurd e (HNO.out x r k), g3, (HW.out.trans hw1).trans hw3⟩
          · have q1 : ¬ (most : Int) < (body.length : Int) + (V : Int) := by have := mt hca.1 hbig; omega
            by_cases h0 : sz = 0
            · have q2 : ((V : Int) == 0) = true := by have := hcz.2 h0; simp; omega
              have HH : Hid (∀ w', Tryz.SS w' p s st 0 (.ok sz r1 j1 : Re Nat) → Calls Tryz.prog 72 #[.pointer (some ⟨p, 0, none⟩)] ((w'.setCell ⟨p, 2, none⟩ (.int .i64 j1)).setCell ⟨p, 3, none⟩ (.int .i64 2048)) fun e w'' => (∃ V, e = .returned V) ∧ Tryz.SS w'' p s j1 2048 T ∧ Wo (fun k => k = p) w' w'') := fun w' g => (by
                refine (Tryz.ssHeaders (Tryz.SS.head g) hs47 s.length (Nat.le_refl _)).mono ?_
                rintro e w1 ⟨VV, rfl, g1⟩
                refine ⟨⟨_, rfl⟩, ?_, (((Wo.refl (fun k => k = p) w').setCell p 2 _ (.inl rfl)).setCell p 3 _ (.inl rfl)).trans g1.wo⟩
                have g2 := g1.ss
                rw [bind_ok_eq] at g2
                have hrl := (Tryz.SS.len g).1
                have e1 : headersD (bnd j1 2048) (s.length + 1) [] r1 j1 = headersD ((j1 : Int) + 2048) (r1.length + 1) [] r1 j1 := by
                  rw [headers_fuel _ s.length r1.length _ _ _ (by omega) (Nat.le_refl _)]
                  rfl
                rw [e1] at g2
                rw [← hT]
                unfold chunkG
                rw [if_neg hbig, if_pos h0]
                exact Tryz.SS.fit g2 fun x hx => by revert hx; cases headersD ((j1 : Int) + 2048) (r1.length + 1) [] r1 j1 <;> exact id)
              have HT : Hid (∀ x r k, T = .ok x r k → body = x.1) := fun x r k e => (by
                rw [← hT] at e
                unfold chunkG at e
                rw [if_neg hbig, if_pos h0] at e
                obtain ⟨o, r5, j5, _, e⟩ := bind_ok e
                injection e with e
                rw [← e])
              clear hT hbig hca hcz hce h0
              go_wp2_with (first | (go_at_call 96; refine k1.mono ?_; clear k1 c1; rintro e w1 ⟨rfl, g1, hw1⟩; have k2 := HK.out w1 g1; have k3 := HH.out w1 g1; obtain ⟨d2, d3, f2, f3⟩ := Tryz.SS.cl g1; have d1 := (Tryz.SS.c g1).2.1; clear HK HH g1) | (go_at_call 71; refine k2.mono ?_; clear k2; rintro e w2 ⟨rfl, rfl⟩) | (go_at_call 72; refine k3.mono ?_; clear k3; rintro e w3 ⟨⟨v3, rfl⟩, g3, hw3⟩; obtain ⟨m2, m3, n2, n3⟩ := Tryz.SS.cl g3; clear d1 d2 d3 f2 f3 m2 n2) | fail)
              go_ret
              exact ⟨body, j1, rfl, hlen, HT.out, Tryz.SS.tail g3, ((HW.out.trans hw1).trans hw3).setCell p 3 _ (.inl rfl)⟩
            · have q2 : ((V : Int) == 0) = false := by have := mt hcz.1 h0; simp; omega
              have hVs : V = sz := hce (by omega)
              have hs9 : sz ≤ 999999999 := by omega
              have HSO : Hid (∀ w', Tryz.SS w' p s st 0 (.ok sz r1 j1 : Re Nat) → Calls Tryz.prog 75 #[.pointer (some ⟨p, 0, none⟩), .int .i64 V] w' fun e w'' => ∃ v : List UInt8, e = .returned (.string ⟨v.toArray⟩) ∧ TxtOk s v (someD sz r1 j1) ∧ v.length ≤ sz ∧ Tryz.SS w'' p s st 0 (someD sz r1 j1) ∧ Wo (fun k => k = p) w' w'') := fun w' g => (by have := Tryz.ssSome g V (by omega); rw [bind_ok_eq, hVs] at this; rw [hVs]; exact this)
              have HNX : Hid (∀ (w' : World) (v : List UInt8), TxtOk s v (someD sz r1 j1) → v.length ≤ sz → Tryz.SS w' p s st 0 ((someD sz r1 j1).bind fun _ r i => endD (bnd st 0) r i) → Wo (fun k => k = p) w w' → (∃ m, Tryz.ChIn w w' p s st most T ((someD sz r1 j1).bind fun _ r i => endD (bnd st 0) r i) (body ++ v) m) ∧ liveN s w' p < liveN s wr p) := fun w' v hv1 hv2 g hw => (by
                cases n with
                | zero => exfalso; omega
                | succ n =>
                  refine ⟨⟨n, g, ?_, ?_, by rw [List.length_append]; omega, hw⟩, ?_⟩
                  · intro u r i e
                    obtain ⟨x, r5, j5, e5, e⟩ := bind_ok e
                    have := endD_two e
                    unfold someD at e5
                    split at e5
                    · cases e5
                    · injection e5 with _ e6 _
                      rw [← e6, List.length_drop] at this
                      omega
                  · rw [← hT]
                    unfold chunkG
                    rw [if_neg hbig, if_neg h0, bind_bind]
                    cases hx : someD sz r1 j1 with
                    | bad a e => rfl
                    | more => rfl
                    | ok x r5 j5 =>
                      rw [hv1.is _ _ _ hx]
                      rfl
                  · rw [hliv]
                    cases hx : ((someD sz r1 j1).bind fun _ r i => endD (bnd st 0) r i) with
                    | bad a e => rw [hx] at g; rw [Tryz.SS.over g (fun _ _ _ e => by cases e)]; omega
                    | more => rw [hx] at g; rw [Tryz.SS.over g (fun _ _ _ e => by cases e)]; omega
                    | ok x r5 j5 =>
                      obtain ⟨x2, r6, j6, e6, e⟩ := bind_ok hx
                      have e7 := (endD_len e).1
                      have e8 := (endD_len e).2
                      rw [hx] at g
                      have hl5 := Tryz.SS.len g
                      rw [Tryz.SS.live g]
                      unfold someD at e6
                      split at e6
                      · cases e6
                      · injection e6 with _ e9 _
                        rw [← e9, List.length_drop] at e7
                        omega)
              clear hT hbig hca hcz hce h0 hVs
              go_wp2_with (first | (go_at_call 96; refine k1.mono ?_; clear k1 c1; rintro e w1 ⟨rfl, g1, hw1⟩; have k2 := HK.out w1 g1; have k3 := HSO.out w1 g1; clear HK HSO g1) | (go_at_call 71; refine k2.mono ?_; clear k2; rintro e w2 ⟨rfl, rfl⟩) | (go_at_call 75; refine k3.mono ?_; clear k3; rintro e w3 ⟨v3, rfl, hv3, hl3, g3, hw3⟩; have k4 := Tryz.ssEnd g3; clear g3; have hz3 : (⟨v3.toArray⟩ : ByteArray).size = v3.length := text_size v3; have hq3 : body.length + v3.length ≤ 1999999999 := by omega) | (go_at_call 63; refine k4.mono ?_; clear k4; rintro e w4 ⟨⟨v4, rfl⟩, g4, hw4⟩; have HFIN : Hid _ := HNX.out w4 v3 hv3 hl3 g4 (((HW.out.trans hw1).trans hw3).trans hw4); clear HNX) | fail)
              go_roundw
              case rel =>
                obtain ⟨⟨m, hc⟩, _⟩ := HFIN.out
                exact ⟨_, body ++ v3, m, by rw [cat2n], hc⟩
              case measure => exact HFIN.out.2
end Go.Proofs
