/-
  What is read is sound, and is printed in no more bytes: texts. Nothing of the program.
-/
import Derived.Test.YtelhjocmiamfiaaGreatDoorJga
namespace Go.Jv
open Go.Lib
theorem unitFrom_in (t : ByteArray) (fr : Nat) : ∀ (k p n m : Nat), unitFrom t fr k p n = .ok m → p ≤ t.size → p + k ≤ t.size
  | 0, p, n, m, _, hp => by omega
  | k + 1, p, n, m, h, hp => by
    rw [unitFrom] at h
    split at h
    · rename_i hlt
      split at h
      · split at h
        · have := unitFrom_in t fr k (p + 1) n m h hlt; omega
        · cases h
      · split at h
        · split at h
          · have := unitFrom_in t fr k (p + 1) n m h hlt; omega
          · cases h
        · split at h
          · have := unitFrom_in t fr k (p + 1) _ m h hlt; omega
          · cases h
    · cases h
theorem bind_ok {α β : Type} {x : R α} {f : α → R β} {b : β} (h : x.bind f = .ok b) : ∃ a, x = .ok a ∧ f a = .ok b := by
  cases x with
  | bad p e => cases h
  | ok a => exact ⟨a, rfl, h⟩
theorem esc_short {c x : UInt8} (h : escOf c = some x) : (qBytes (encodeRune ((x.toNat : Nat) : Int))).length ≤ 2 := by
  have hx : x = 34 ∨ x = 92 ∨ x = 47 ∨ x = 8 ∨ x = 12 ∨ x = 10 ∨ x = 13 ∨ x = 9 := by
    unfold escOf at h
    repeat' split at h
    all_goals (first | (cases h; done) | (cases h; decide))
  rcases hx with rfl | rfl | rfl | rfl | rfl | rfl | rfl | rfl <;> (rw [enc_ascii _ (by decide)]; decide)
theorem escape_in {t : ByteArray} {p : Nat} {x : Nat × Nat} (h : escape t p = .ok x) (_hp : p < t.size) : (qBytes (encodeRune (x.1 : Int))).length + p ≤ x.2 ∧ x.2 ≤ t.size := by
  unfold escape at h
  obtain ⟨c, h1, h⟩ := bind_ok h
  obtain ⟨n1, -⟩ := next_ok h1
  split at h
  · rename_i y hy
    injection h with h
    subst h
    have := esc_short hy
    exact ⟨by simp only; omega, by simp only; omega⟩
  · obtain ⟨high, h2, h⟩ := bind_ok h
    have u1 := unitFrom_in t p 6 p 0 high h2 (by omega)
    split at h
    · injection h with h
      subst h
      have := enc_q6 high
      exact ⟨by simp only; omega, by simp only; omega⟩
    · split at h
      · cases h
      · obtain ⟨low, h3, h⟩ := bind_ok h
        have u2 := unitFrom_in t p 6 (p + 6) 0 low h3 (by omega)
        split at h
        · cases h
        · injection h with h
          subst h
          have := enc_q6 (65536 + (high - 55296) * 1024 + (low - 56320))
          exact ⟨by simp only; omega, by simp only; omega⟩
theorem sign_in {t : ByteArray} {p : Nat} {x : Nat × Nat} (h : signAt t p = .ok x) (hp : p < t.size) (hc : ¬ t.get! p < 32) (h34 : t.get! p ≠ 34) (h92 : t.get! p ≠ 92) : (qBytes (encodeRune (x.1 : Int))).length + p ≤ x.2 ∧ x.2 ≤ t.size := by
  unfold signAt at h
  split at h
  · cases h
  · split at h
    · cases h
    · rename_i hbad
      injection h with h
      subst h
      have hdl : decodeL (t.data.toList.drop p) = Utf8.decode t p := decodeL_drop t p
      have hne := drop_ne hp
      have hv : ¬ ((decodeL (t.data.toList.drop p)).1 = 65533 ∧ (decodeL (t.data.toList.drop p)).2 = 1) := fun e => hbad (by rw [← hdl]; exact Prod.ext e.1 e.2)
      have he := encode_decode _ hne hv
      have hle := decodeL_le _ hne
      rw [sx_len] at hle
      rw [hdl] at he hle
      rw [he]
      refine ⟨?_, by simp only; omega⟩
      simp only
      have hlen : ((t.data.toList.drop p).take (Utf8.decode t p).2).length = (Utf8.decode t p).2 := by rw [List.length_take, sx_len]; omega
      by_cases h128 : 128 ≤ (t.get! p).toNat
      · obtain ⟨c, l, hcl⟩ : ∃ c l, t.data.toList.drop p = c :: l := by
          cases hl : t.data.toList.drop p with
          | nil => exact absurd hl hne
          | cons c l => exact ⟨c, l, rfl⟩
        obtain ⟨-, g2, -⟩ := sx_next hcl
        rw [hcl] at hv hdl hlen ⊢
        have hh := take_high hv (by rw [← g2]; exact h128)
        rw [hdl] at hh
        rw [qBytes_high _ hh, hlen]
        omega
      · have hd1 : (Utf8.decode t p).2 = 1 := by rw [Lib.decode_at, Lib.decodeN_ascii _ _ _ _ _ (by omega)]
        obtain ⟨c, l, hcl⟩ : ∃ c l, t.data.toList.drop p = c :: l := by
          cases hl : t.data.toList.drop p with
          | nil => exact absurd hl hne
          | cons c l => exact ⟨c, l, rfl⟩
        obtain ⟨-, g2, -⟩ := sx_next hcl
        rw [hd1, hcl]
        have hq : qByte c = [c] := by
          rw [g2] at hc h34 h92
          unfold qByte
          rw [if_neg (by rintro (e | e); exact h34 e; exact h92 e), if_neg (fun e => hc (by rw [e]; decide)), if_neg (fun e => hc (by rw [e]; decide)), if_neg (fun e => hc (by rw [e]; decide)), if_neg (fun e => hc (by rw [e]; decide)), if_neg (fun e => hc (by rw [e]; decide)), if_neg hc]
        simp [qBytes, hq]
        omega
theorem quotedFrom_gd (t : ByteArray) : ∀ (n p : Nat) (out : List UInt8) (s : ByteArray) (q : Nat), quotedFrom t n p out = .ok (s, q) → validD out = true → validD s.data.toList = true ∧ (qBytes s.data.toList).length + p + 1 ≤ (qBytes out).length + q ∧ q ≤ t.size
  | 0, p, out, s, q, h, _ => by rw [quotedFrom] at h; cases h
  | n + 1, p, out, s, q, h, hv => by
    rw [quotedFrom] at h
    obtain ⟨c, h1, h⟩ := bind_ok h
    obtain ⟨n1, n2⟩ := next_ok h1
    split at h
    · injection h with h
      injection h with h h'
      subst h h'
      exact ⟨hv, by simp only; omega, by omega⟩
    · rename_i h34
      split at h
      · cases h
      · rename_i h32
        split at h
        · obtain ⟨x, h2, h⟩ := bind_ok h
          obtain ⟨e1, e2⟩ := escape_in h2 n1
          obtain ⟨r1, r2, r3⟩ := quotedFrom_gd t n x.2 _ s q h (validD_add _ _ _ (Nat.le_refl _) hv (enc_any x.1).1)
          rw [qBytes_app, List.length_append] at r2
          exact ⟨r1, by omega, r3⟩
        · rename_i h92
          obtain ⟨x, h2, h⟩ := bind_ok h
          obtain ⟨e1, e2⟩ := sign_in h2 n1 (by rw [n2]; exact h32) (by rw [n2]; exact h34) (by rw [n2]; exact h92)
          obtain ⟨r1, r2, r3⟩ := quotedFrom_gd t n x.2 _ s q h (validD_add _ _ _ (Nat.le_refl _) hv (enc_any x.1).1)
          rw [qBytes_app, List.length_append] at r2
          exact ⟨r1, by omega, r3⟩
theorem quoted_gd {t : ByteArray} {p : Nat} {x : ByteArray × Nat} (h : quoted t p = .ok x) : validD x.1.data.toList = true ∧ p + (qText x.1).length ≤ x.2 ∧ x.2 ≤ t.size := by
  unfold quoted at h
  obtain ⟨q, h1, h⟩ := bind_ok h
  obtain ⟨rfl, -⟩ := take_ok h1
  obtain ⟨r1, r2, r3⟩ := quotedFrom_gd t _ _ [] x.1 x.2 h rfl
  refine ⟨r1, ?_, r3⟩
  unfold qText
  simp [qBytes] at r2 ⊢
  omega
theorem more_in {t : ByteArray} {p : Nat} {e : UInt8} {had : Nat} {m : Bool × Nat} (h : more t p e had = .ok m) : m.2 ≤ t.size ∧ (m.1 = false → p + 1 ≤ m.2) ∧ (m.1 = true → p + (if had = 0 then 0 else 1) ≤ m.2 ∧ had ≠ 64 ∧ m.2 < t.size) := by
  unfold more at h
  obtain ⟨c, h1, h⟩ := bind_ok h
  obtain ⟨n1, -⟩ := next_ok h1
  have b1 := (run_le isBlank t p).1
  unfold blanks at n1 h
  split at h
  · injection h with h
    subst h
    exact ⟨by simp only; omega, (fun _ => by simp only; omega), (fun e => by cases e)⟩
  · split at h
    · rename_i h0
      injection h with h
      subst h
      exact ⟨by simp only; omega, (fun e => by cases e), (fun _ => ⟨by rw [if_pos h0]; simp only; omega, by omega, n1⟩)⟩
    · rename_i h0
      obtain ⟨q, h2, h⟩ := bind_ok h
      obtain ⟨rfl, t2⟩ := take_ok h2
      obtain ⟨c', h3, h⟩ := bind_ok h
      obtain ⟨n3, -⟩ := next_ok h3
      have b2 := (run_le isBlank t (run isBlank t p + 1)).1
      split at h
      · cases h
      · rename_i h64
        injection h with h
        subst h
        exact ⟨by simp only; omega, (fun e => by cases e), (fun _ => ⟨by rw [if_neg h0]; simp only; omega, h64, n3⟩)⟩
end Go.Jv
