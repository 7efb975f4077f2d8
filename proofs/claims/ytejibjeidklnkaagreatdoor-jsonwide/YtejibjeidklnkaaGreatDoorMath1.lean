import Derived.Test.YtejibjeidklnkaaGreatDoorPlain
import Derived.Lib.TrimUEq
import Derived.Shelf.Unicode.DecodeLast
namespace Go.Sg
theorem decodeN_fffd (n b0 b1 b2 b3 : Nat) (h : (Lib.decodeN n b0 b1 b2 b3).1 = 65533) :
    Lib.decodeN n b0 b1 b2 b3 = (65533, 1) ∨ (Lib.decodeN n b0 b1 b2 b3 = (65533, 3) ∧ 2 < n ∧ b0 = 239 ∧ b1 = 191 ∧ b2 = 189) := by
  unfold Lib.decodeN at h ⊢
  repeat' split
  all_goals simp_all
  all_goals omega
theorem decodeN_mark (n b3 : Nat) (h : 2 < n) : Lib.decodeN n 239 191 189 b3 = (65533, 3) := by
  have h1 : 1 < n := by omega
  simp [Lib.decodeN, h, h1]
theorem get!_drop (s : ByteArray) (pos i : Nat) : s.get! (pos + i) = (s.data.toList.drop pos).getD i 0 := by
  rw [← Lib.getD_get!]
  simp [List.getD]
theorem hasMark (s : ByteArray) (pos : Nat) : Lib.hasPrefix (s.extract pos s.size).data.toList mark.data.toList = true ↔ (pos + 2 < s.size ∧ (s.get! pos).toNat = 239 ∧ (s.get! (pos + 1)).toNat = 191 ∧ (s.get! (pos + 2)).toNat = 189) := by
  have e : (s.extract pos s.size).data.toList = s.data.toList.drop pos := by
    rw [Lib.extract_data, Lib.size_eq, List.take_of_length_le (by simp)]
  have hl : s.size = s.data.toList.length := Lib.size_eq s
  have hn : (s.data.toList.drop pos).length = s.size - pos := by rw [List.length_drop, ← hl]
  have g0 := get!_drop s pos 0
  rw [Nat.add_zero] at g0
  rw [e, g0, get!_drop s pos 1, get!_drop s pos 2]
  generalize s.data.toList.drop pos = l at *
  have k (a : UInt8) (n : Nat) (hn : n < 256) : a.toNat = n ↔ a = UInt8.ofNat n := by
    constructor
    · intro h; subst h; simp
    · intro h; subst h; simp; omega
  rw [k _ 239 (by omega), k _ 191 (by omega), k _ 189 (by omega)]
  unfold Lib.hasPrefix mark
  match l, hn with
  | [], hn => simp at hn; simp
  | [a], hn => simp at hn; simp
  | [a, b], hn => simp at hn; simp
  | a :: b :: c :: r, hn =>
    simp at hn
    simp [List.isPrefixOf]
    constructor
    · rintro ⟨rfl, rfl, rfl⟩; exact ⟨by omega, rfl, rfl, rfl⟩
    · rintro ⟨_, rfl, rfl, rfl⟩; exact ⟨rfl, rfl, rfl⟩
theorem wrongB_decode (s : ByteArray) (pos : Nat) : wrongB s pos ((Utf8.decode s pos).1 : Int) = wrongAt s pos := by
  unfold wrongB wrongAt
  have hm := hasMark s pos
  have hd := Lib.decode_at s pos
  apply Bool.eq_iff_iff.2
  simp only [Bool.and_eq_true, beq_iff_eq, Bool.not_eq_true', decide_eq_true_eq]
  constructor
  · rintro ⟨h1, h2⟩
    have h1' : (Utf8.decode s pos).1 = 65533 := by omega
    rw [hd] at h1' ⊢
    rcases decodeN_fffd _ _ _ _ _ h1' with h | ⟨_, h3⟩
    · exact h
    · rw [hm.2 ⟨by omega, h3.2⟩] at h2
      cases h2
  · intro h
    refine ⟨by rw [h]; rfl, ?_⟩
    cases hb : Lib.hasPrefix (s.extract pos s.size).data.toList mark.data.toList with
    | false => rfl
    | true =>
      obtain ⟨h1, h2, h3, h4⟩ := hm.1 hb
      rw [hd, h2, h3, h4, decodeN_mark _ _ (by omega)] at h
      cases h
/-- The class of a sign: which numbers have how many bytes. -/
def Cls (r : Int) (n : Nat) : Prop := (0 ≤ r ∧ r ≤ 127 ∧ n = 1) ∨ (128 ≤ r ∧ r ≤ 2047 ∧ n = 2) ∨ (((2048 ≤ r ∧ r < 55296) ∨ (57343 < r ∧ r ≤ 65535)) ∧ n = 3) ∨ (65536 ≤ r ∧ r ≤ 1114111 ∧ n = 4)
theorem decodeN_cls (n b0 b1 b2 b3 : Nat) (h0 : b0 < 256) (h : Lib.decodeN n b0 b1 b2 b3 ≠ (65533, 1)) : Cls (Lib.decodeN n b0 b1 b2 b3).1 (Lib.decodeN n b0 b1 b2 b3).2 := by
  unfold Cls
  unfold Lib.decodeN at h ⊢
  repeat' split
  all_goals simp_all
  all_goals omega
theorem decode_cls (s : ByteArray) (pos : Nat) (h : wrongAt s pos = false) : Cls (Utf8.decode s pos).1 (Utf8.decode s pos).2 := by
  unfold wrongAt at h
  have h' := of_decide_eq_false h
  rw [Lib.decode_at] at h' ⊢
  exact decodeN_cls _ _ _ _ _ (UInt8.toNat_lt _) h'
theorem decodeN_in (n b0 b1 b2 b3 : Nat) (h : 0 < n) : (Lib.decodeN n b0 b1 b2 b3).2 ≤ n := by
  unfold Lib.decodeN
  repeat' split
  all_goals simp_all
  all_goals omega
theorem decode_in (s : ByteArray) (pos : Nat) (h : pos < s.size) : pos + (Utf8.decode s pos).2 ≤ s.size := by
  rw [Lib.decode_at]
  have := decodeN_in (s.size - pos) (s.get! pos).toNat (s.get! (pos + 1)).toNat (s.get! (pos + 2)).toNat (s.get! (pos + 3)).toNat (by omega)
  omega
theorem enc_len {r : Int} {n : Nat} (h : Cls r n) : (Lib.encodeRune r).length = n := by
  unfold Lib.encodeRune
  rcases h with ⟨a, b, rfl⟩ | ⟨a, b, rfl⟩ | ⟨a, rfl⟩ | ⟨a, b, rfl⟩
  · rw [Lib.encodeRuneZ_one a b]; rfl
  · rw [Lib.encodeRuneZ_two a b]; rfl
  · rw [Lib.encodeRuneZ_three a]; rfl
  · rw [Lib.encodeRuneZ_four a b]; rfl
theorem row_cls : ∀ k, k < 19 → (0 ≤ rowF k ∧ rowL k ≤ 127 ∧ 0 ≤ rowF k + rowP k ∧ rowL k + rowP k ≤ 127) ∨ (128 ≤ rowF k ∧ rowL k ≤ 2047 ∧ 128 ≤ rowF k + rowP k ∧ rowL k + rowP k ≤ 2047) ∨ (57344 ≤ rowF k ∧ rowL k ≤ 65500 ∧ 57344 ≤ rowF k + rowP k ∧ rowL k + rowP k ≤ 65500) := by decide
theorem smallGo_cases : ∀ (n k : Nat) (r : Int), n + k ≤ 19 → smallGo n k r = r ∨ ∃ j, j < 19 ∧ rowF j ≤ r ∧ r ≤ rowL j ∧ (r - rowF j) % rowS j = 0 ∧ smallGo n k r = r + rowP j
  | 0, _, _, _ => .inl rfl
  | n + 1, k, r, h => by
    unfold smallGo
    split
    · exact .inl rfl
    · split
      · rename_i h1 h2
        exact .inr ⟨k, by omega, by omega, h2.1, h2.2, rfl⟩
      · exact smallGo_cases n (k + 1) r (by omega)
theorem small_cases (r : Int) : small r = r ∨ ∃ j, j < 19 ∧ rowF j ≤ r ∧ r ≤ rowL j ∧ (r - rowF j) % rowS j = 0 ∧ small r = r + rowP j := smallGo_cases 19 0 r (by omega)
theorem small_cls {r : Int} {n : Nat} (h : Cls r n) : Cls (small r) n := by
  rcases small_cases r with e | ⟨j, hj, h1, h2, _, e⟩
  · rw [e]; exact h
  · rw [e]
    have := row_cls j hj
    have := row_facts j hj
    unfold Cls at h ⊢
    omega
theorem small_bd (r : Int) (h0 : 0 ≤ r) (h1 : r ≤ 1114111) : 0 ≤ small r ∧ small r ≤ 1114111 := by
  rcases small_cases r with e | ⟨j, hj, h1, h2, _, e⟩
  · rw [e]; omega
  · have := row_cls j hj
    have := row_facts j hj
    omega
theorem piece_len (s : ByteArray) (pos : Nat) : (if wrongAt s pos then [s.get! pos] else Lib.encodeRune (small (Utf8.decode s pos).1)).length = (Utf8.decode s pos).2 := by
  cases h : wrongAt s pos with
  | true =>
    have := of_decide_eq_true h
    simp [this]
  | false => simpa using enc_len (small_cls (decode_cls s pos h))
theorem foldFrom_end (s : ByteArray) (f pos : Nat) (h : ¬ pos < s.size) : foldFrom s f pos = [] := by
  cases f with
  | zero => rfl
  | succ f => simp [foldFrom, h]
theorem validFrom_end (s : ByteArray) (f pos : Nat) (h : ¬ pos < s.size) : validFrom s f pos = true := by
  cases f with
  | zero => rfl
  | succ f => simp [validFrom, h]
theorem foldFrom_len (s : ByteArray) : ∀ f pos, pos ≤ s.size → s.size ≤ pos + f → (foldFrom s f pos).length = s.size - pos
  | 0, pos, h, h' => by simp [foldFrom]; omega
  | f + 1, pos, h, h' => by
    unfold foldFrom
    split
    · rename_i hp
      have hw := Lib.width_pos s pos
      have hi := decode_in s pos hp
      rw [List.length_append, piece_len, foldFrom_len s f _ (by omega) (by omega)]
      omega
    · simp; omega
theorem fold_size (s : ByteArray) : (fold s).size = s.size := by
  have := foldFrom_len s s.size 0 (by omega) (by omega)
  unfold fold
  rw [Lib.size_eq]
  simpa using this
end Go.Sg
