/-
  ReadList of numbers, whatever it reads.
-/
import Derived.Test.YtghpbagmpgphfaaWqG
import Derived.Shelf.Bytes.SlSmallAll
namespace Go.Proofs
open Go.RowKit Go.Wi
/-- What a list of numbers reads: all of them, or none where there is a fault. -/
def Wi.nums : Nat → List Int → Rs → List Int × Rs
  | 0, l, s => (l, s)
  | n + 1, l, s => if s.int.2.f.isSome then ([], s.int.2) else Wi.nums n (l ++ [s.int.1]) s.int.2
theorem Wi.int_on (s : Rs) (h : s.In) : s.int.2.In ∧ s.int.2.t = s.t ∧ In64 s.int.1 ∧ (s.int.2.f = none → s.f = none ∧ s.p < s.int.2.p) := by
  obtain ⟨h1, h2, h3⟩ := s.cnt_in h
  refine ⟨h1, h2, Wi.unzig_in h3, fun hf => ?_⟩
  obtain ⟨t, p, f⟩ := s
  cases f with
  | some a => cases hf
  | none =>
    refine ⟨rfl, ?_⟩
    show p < ((Rs.mk t p none).cnt).2.p
    have hf2 : ((Rs.mk t p none).cnt).2.f = none := hf
    simp only [Rs.cnt] at hf2 ⊢
    split
    · rename_i n k e
      have := rdC_back _ 0 0 n k e (by decide) (by omega)
      simp only
      omega
    · rename_i k e
      rw [e] at hf2
      cases hf2
theorem Wi.many_on (s : Rs) (most : Int) (h : s.In) : (Wi.many s most).2.In ∧ (Wi.many s most).2.t = s.t ∧ ((Wi.many s most).1 : Int) ≤ max most 0 ∧ ((Wi.many s most).2.f.isSome → (Wi.many s most).1 = 0) := by
  obtain ⟨h1, h2, h3⟩ := s.cnt_in h
  obtain ⟨g1, g2, g3⟩ := s.cnt.2.fail_in s.p h1
  have hb := Wi.cnt_bad s
  unfold Wi.many
  split
  · exact ⟨g1, g2.trans h2, by simp only; omega, fun _ => rfl⟩
  · rename_i hc
    refine ⟨h1, h2, by simp only; omega, fun e => ?_⟩
    simp only at e
    obtain ⟨a, ha⟩ := Option.isSome_iff_exists.1 e
    exact hb a ha
set_option maxHeartbeats 2000000 in
theorem Try.funcNil (f : FuncId) (w : World) : (binOp .eql 64 (.func (.func f) #[] #[]) .nilFunc).run Try.prog w = .ok (.bool false) w := by kernel_rfl
theorem Try.RJ.none {own : Nat → Prop} {w0 w : World} {x : Nat} {s : Rs} {v : Value} {li : List Int} (h : Try.RJ own w0 w x s v li) : Try.RJ own w0 w x s (.slice .none 0 0) [] := by
  obtain ⟨oR, h1, h2, h3, h4⟩ := h.ex
  exact ⟨⟨oR, h1, h2, World.ownsRow_nil _ _ _ _, fun k e => by cases e⟩, h.wo⟩
theorem Try.RJ.inn {own : Nat → Prop} {w0 w : World} {x : Nat} {s : Rs} {v : Value} {li : List Int} (h : Try.RJ own w0 w x s v li) : s.In := by
  obtain ⟨oR, h1, -⟩ := h.ex
  exact h1.inn
theorem Try.RJ.fault {own : Nat → Prop} {w0 w : World} {x : Nat} {s : Rs} {v : Value} {li : List Int} (h : Try.RJ own w0 w x s v li) {a : Nat} (hf : s.f = some a) : ∃ b, w.cell? ⟨x, 2, .none⟩ = some (.pointer (some b)) := by
  obtain ⟨oR, h1, -⟩ := h.ex
  obtain ⟨V, fv, hx, -, -, -, hfv⟩ := h1.ex
  rcases hfv with ⟨e, rfl⟩ | ⟨b, y, hf', rfl, -⟩
  · rw [hf] at e; cases e
  · exact ⟨_, cell_of_row w x 2 _ _ _ hx⟩
set_option maxRecDepth 4000 in
set_option maxHeartbeats 4000000 in
theorem Try.readList_any {own : Nat → Prop} {w0 w : World} {x : Nat} {s : Rs} (h : Try.RJ own w0 w x s (.slice .none 0 0) []) (most : Int) (hmo : In64 most) (hlen : s.t.length ≤ 1000000000000) :
    Calls Try.prog 24 #[.pointer (some ⟨x, 0, .none⟩), .int .i64 most, .func (.func 25) #[] #[]] w fun e w' => ∃ ad cap, e = .returned (.slice ad (Wi.nums (Wi.many s most).1 [] (Wi.many s most).2).1.length cap) ∧ Try.RJ own w0 w' x (Wi.nums (Wi.many s most).1 [] (Wi.many s most).2).2 (.slice ad (Wi.nums (Wi.many s most).1 [] (Wi.many s most).2).1.length cap) (Wi.nums (Wi.many s most).1 [] (Wi.many s most).2).1 := by
  have hfn := Try.funcNil 25
  obtain ⟨m1, m2, m3, m4⟩ := Wi.many_on s most h.inn
  have h1 : Calls Try.prog 37 #[.pointer (some ⟨x, 0, .none⟩), .int .i64 most] w fun e w' => e = .returned (.int .i64 (Wi.many s most).1) ∧ Try.RJ own w0 w' x (Wi.many s most).2 (.slice .none 0 0) [] := by
    obtain ⟨oR, g1, g2, g3, g4⟩ := h.ex
    exact (Try.things_any g1 most hmo).mono fun _ _ ⟨e1, e2⟩ => ⟨e1, Try.RJ.chg h.wo g1 g2 g3 g4 e2⟩
  rw [← m2] at hlen
  obtain ⟨R, hR⟩ : ∃ R, R = Wi.nums (Wi.many s most).1 [] (Wi.many s most).2 := ⟨_, rfl⟩
  rw [← hR]
  generalize Wi.many s most = M at *
  obtain ⟨n, s1⟩ := M
  simp only at h1 hR m1 m3 m4 hlen
  have hn : n ≤ 9223372036854775807 := by have := hmo.2; omega
  clear m2 m3 h hmo
  obtain ⟨lf, hlf⟩ : ∃ lf, lf = s1.t.length - s1.p := ⟨_, rfl⟩
  have hleft : ∀ W, Try.RJ own w0 W x s1 (.slice .none 0 0) [] → Calls Try.prog 32 #[.pointer (some ⟨x, 0, .none⟩)] W fun e w' => e = .returned (.int .i64 (lf : Nat)) ∧ Try.RJ own w0 w' x s1 (.slice .none 0 0) [] := fun W hW => by
    obtain ⟨oR, g1, -⟩ := hW.ex
    have := Try.left_any g1
    rw [← hlf] at this
    exact this.mono fun _ _ ⟨e1, n, e2⟩ => ⟨e1, by rw [e2]; exact hW.drewN n⟩
  have hmin : min (n : Int) (lf : Int) = ((min n lf : Nat) : Int) := by omega
  obtain ⟨room, hroom⟩ : ∃ room, room = min n lf := ⟨_, rfl⟩
  rw [← hroom] at hmin
  have Hroom : Hid (room = min n lf) := hroom
  have HR : Hid (R = Wi.nums n [] s1) := hR
  have Hlf : Hid (lf = s1.t.length - s1.p) := hlf
  have Hlen : Hid (s1.t.length ≤ 1000000000000) := hlen
  have Hin : Hid s1.In := m1
  clear hroom hR hlf hlen m1 m4
  go_enter Try.func24, Try.ntmps24
  go_wp2_with (first
    | (go_at_call 37; refine h1.mono ?_; clear h1; rintro e w2 ⟨rfl, hR2⟩; have h2 := hleft w2 hR2)
    | (go_at_call 32; refine h2.mono ?_; clear h2 hleft; rintro e w3 ⟨rfl, hR3⟩)
    | fail)
  have HR3 : Hid (Try.RJ own w0 w3 x s1 (.slice .none 0 0) []) := hR3
  clear hR2 hR3
  go_loopw [9, 10, 21] (fun l _ i wr => ∃ (k : Nat) (ad : Option Addr) (cap : Nat) (li : List Int) (s2 : Rs), k ≤ n ∧ i = .int .i64 k ∧ l = .slice ad k cap ∧ li.length = k ∧ R = Wi.nums (n - k) li s2 ∧ s2.t = s1.t ∧ s1.p + k ≤ s2.p ∧ Try.RJ own w0 wr x s2 (.slice ad k cap) li) (fun _ _ i _ => n - (intOf i).toNat)
  case atStart => exact ⟨0, .none, 0, [], s1, Nat.zero_le _, rfl, rfl, rfl, HR.out, rfl, Nat.le_refl _, HR3.out⟩
  case round =>
    obtain ⟨k, ad, cap, li, s2, hk, rfl, rfl, hli, hRk, ht2, hp2, hRI⟩ := hrel
    by_cases hkq : k < n
    · have q0 : (k : Int) < (n : Int) := by omega
      obtain ⟨i1, i2, i3, i4⟩ := Wi.int_on s2 hRI.inn
      have h4 := hRI.one
      have hRs : R = if s2.int.2.f.isSome then ([], s2.int.2) else Wi.nums (n - (k + 1)) (li ++ [s2.int.1]) s2.int.2 := by
        rw [hRk, show n - k = (n - (k + 1)) + 1 by omega]
        rfl
      have Hli : Hid (li.length = k) := hli
      cases hf : s2.int.2.f with
      | some a =>
        have HRs : Hid (R = ([], s2.int.2)) := by show _ = _; rw [hRs, hf]; rfl
        have Hf : Hid (s2.int.2.f = some a) := hf
        generalize s2.int.2 = s3 at *
        generalize s2.int.1 = v3 at *
        clear hRs hRk hli hp2 ht2 i1 i2 i3 i4 hf hRI
        go_wp2_with (first
          | (go_at_call 25; refine h4.mono ?_; clear h4; rintro e w5 ⟨rfl, hR5⟩; obtain ⟨b5, c2⟩ := hR5.fault Hf.out)
          | fail)
        go_ret
        rw [HRs.out]
        exact ⟨.none, 0, rfl, hR5.none⟩
      | none =>
        obtain ⟨i5, i6⟩ := i4 hf
        have hle : s2.int.2.p ≤ s1.t.length := by
          have h7 : s2.int.2.p ≤ s2.int.2.t.length := i1
          rw [i2, ht2] at h7
          exact h7
        have HRs : Hid (R = Wi.nums (n - (k + 1)) (li ++ [s2.int.1]) s2.int.2) := by show _ = _; rw [hRs, hf]; rfl
        have Hf : Hid (s2.int.2.f = none) := hf
        have Ht : Hid (s2.int.2.t = s1.t) := i2.trans ht2
        have Hp : Hid (s1.p + (k + 1) ≤ s2.int.2.p) := by show _ ≤ _; omega
        have hk12 : k < 1000000000000 := by have := Hlen.out; omega
        have hkr : k < room := by have h8 := Hroom.out; have h9 := Hlf.out; rw [h8]; omega
        have hr12 : room ≤ 1000000000000 := by have h8 := Hroom.out; have h9 := Hlf.out; have := Hlen.out; omega
        have Hr12 : Hid (room ≤ 1000000000000) := hr12
        have Hk12 : Hid (k < 1000000000000) := hk12
        have q3 : (k : Int) < (room : Int) := by omega
        generalize s2.int.2 = s3 at *
        generalize s2.int.1 = v3 at *
        clear hRs hRk hli hp2 ht2 i1 i2 i3 i4 i5 i6 hf hRI hle hr12 hkr
        by_cases hcap : k = cap
        · have q2 : ((k : Int) == (cap : Int)) = true := by simp [hcap]
          have Hc : Hid (k = cap) := hcap
          clear hcap
          go_wp2_with (first
            | (go_at_call 25; refine h4.mono ?_; clear h4; rintro e w5 ⟨rfl, hR5⟩; have c2 := hR5.nofault Hf.out; have h5 := hR5.wider room Hr12.out (by rw [Hli.out]; have := Hk12.out; omega); rw [Hli.out] at h5)
            | (go_at_call 38; refine h5.mono ?_; clear h5; rintro e w6 ⟨ad6, cap6, rfl, hR6⟩)
            | (at_builtin; refine Try.appI rfl _ _ rfl hR6 rfl rfl v3 (by rw [Hli.out]; have := Hk12.out; omega) ?_; intro ad7 cap7 w7 hR7; rw [Hli.out] at hR7 ⊢)
            | fail)
          go_roundw
          case rel => exact ⟨k + 1, ad7, cap7, li ++ [v3], s3, by omega, by go_num, rfl, by rw [List.length_append, Hli.out]; rfl, HRs.out, Ht.out, Hp.out, hR7⟩
          case measure => simp [intOf]; omega
        · have q2 : ((k : Int) == (cap : Int)) = false := by simp; omega
          clear hcap
          go_wp2_with (first
            | (go_at_call 25; refine h4.mono ?_; clear h4; rintro e w5 ⟨rfl, hR5⟩; have c2 := hR5.nofault Hf.out)
            | (at_builtin; refine Try.appI rfl _ _ rfl hR5 rfl rfl v3 (by rw [Hli.out]; have := Hk12.out; omega) ?_; intro ad7 cap7 w7 hR7; rw [Hli.out] at hR7 ⊢)
            | fail)
          go_roundw
          case rel => exact ⟨k + 1, ad7, cap7, li ++ [v3], s3, by omega, by go_num, rfl, by rw [List.length_append, Hli.out]; rfl, HRs.out, Ht.out, Hp.out, hR7⟩
          case measure => simp [intOf]; omega
    · have q0 : ¬ (k : Int) < (n : Int) := by omega
      have hkk : k = n := by omega
      subst hkk
      rw [Nat.sub_self] at hRk
      have HRk : Hid (R = (li, s2)) := hRk
      have Hli : Hid (li.length = k) := hli
      clear hRk hli
      go_wp2
      go_ret
      rw [HRk.out]
      exact ⟨ad, cap, by rw [Hli.out]; rfl, by rw [Hli.out]; exact hRI⟩
end Go.Proofs
