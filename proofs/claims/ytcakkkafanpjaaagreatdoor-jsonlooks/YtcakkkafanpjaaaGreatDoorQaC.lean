/-
  Laid together by packg.py of Plain Math1 Jr5 Jr6 Jo.
-/
import Derived.Test.YtcakkkafanpjaaaGreatDoorPJr4
import Derived.Test.YtcakkkafanpjaaaGreatDoorQaA
import Derived.WalkKit
import Derived.Lib.OthersKept
import Derived.Lib.RuneBytes
import Derived.Lib.DecodeN
import Derived.Lib.TrimU
import Derived.Lib.Strings
import Derived.Shelf.Unicode.DecodeLast
import Derived.Lib.RuneCountTail
import Derived.Lib.TrimUEq
import Derived.Laws.BytesArg
import Derived.Laws.IdiomStrings
import Derived.Laws.AppendOwn
import Derived.Lib.UnsafeStr
namespace Go.Sg
/-- S3. -/
def wordB (r : Int) : Bool :=
  if r < 192 then (decide (48 ≤ r ∧ r ≤ 57) || decide (65 ≤ r ∧ r ≤ 90) || decide (97 ≤ r ∧ r ≤ 122) || decide (r = 95))
  else if r = 215 ∨ r = 247 ∨ r = 65533 then false
  else if (8192 ≤ r ∧ r ≤ 8303) ∨ (12288 ≤ r ∧ r ≤ 12351) ∨ (55296 ≤ r ∧ r ≤ 57343) ∨ (65280 ≤ r ∧ r ≤ 65295) then false
  else decide (r ≤ 1114111)
/-- S2's table: first, last, step, plus. -/
def rows : List (Int × Int × Int × Int) := [(65, 90, 1, 32), (192, 214, 1, 32), (216, 222, 1, 32), (256, 302, 2, 1), (306, 310, 2, 1), (313, 327, 2, 1), (330, 374, 2, 1), (376, 376, 1, -121), (377, 381, 2, 1), (902, 902, 1, 38), (904, 906, 1, 37), (908, 908, 1, 64), (910, 911, 1, 63), (913, 929, 1, 32), (931, 939, 1, 32), (962, 962, 1, 1), (1024, 1039, 1, 80), (1040, 1071, 1, 32), (65313, 65338, 1, 32)]
def rowF (k : Nat) : Int := (rows.getD k (0, 0, 1, 0)).1
def rowL (k : Nat) : Int := (rows.getD k (0, 0, 1, 0)).2.1
def rowS (k : Nat) : Int := (rows.getD k (0, 0, 1, 0)).2.2.1
def rowP (k : Nat) : Int := (rows.getD k (0, 0, 1, 0)).2.2.2
def letterCells : Array Value := #[.int .i32 65, .int .i32 90, .int .i32 1, .int .i32 32, .int .i32 192, .int .i32 214, .int .i32 1, .int .i32 32, .int .i32 216, .int .i32 222, .int .i32 1, .int .i32 32, .int .i32 256, .int .i32 302, .int .i32 2, .int .i32 1, .int .i32 306, .int .i32 310, .int .i32 2, .int .i32 1, .int .i32 313, .int .i32 327, .int .i32 2, .int .i32 1, .int .i32 330, .int .i32 374, .int .i32 2, .int .i32 1, .int .i32 376, .int .i32 376, .int .i32 1, .int .i32 (-121), .int .i32 377, .int .i32 381, .int .i32 2, .int .i32 1, .int .i32 902, .int .i32 902, .int .i32 1, .int .i32 38, .int .i32 904, .int .i32 906, .int .i32 1, .int .i32 37, .int .i32 908, .int .i32 908, .int .i32 1, .int .i32 64, .int .i32 910, .int .i32 911, .int .i32 1, .int .i32 63, .int .i32 913, .int .i32 929, .int .i32 1, .int .i32 32, .int .i32 931, .int .i32 939, .int .i32 1, .int .i32 32, .int .i32 962, .int .i32 962, .int .i32 1, .int .i32 1, .int .i32 1024, .int .i32 1039, .int .i32 1, .int .i32 80, .int .i32 1040, .int .i32 1071, .int .i32 1, .int .i32 32, .int .i32 65313, .int .i32 65338, .int .i32 1, .int .i32 32]
theorem row_facts : ∀ k, k < 19 → 65 ≤ rowF k ∧ rowF k ≤ rowL k ∧ rowL k ≤ 65338 ∧ 1 ≤ rowS k ∧ rowS k ≤ 2 ∧ -121 ≤ rowP k ∧ rowP k ≤ 80 := by decide
/-- The search from row k on, 'n' rows of it. -/
def smallGo : Nat → Nat → Int → Int
  | 0, _, r => r
  | n + 1, k, r => if r < rowF k then r else if r ≤ rowL k ∧ (r - rowF k) % rowS k = 0 then r + rowP k else smallGo n (k + 1) r
def small (r : Int) : Int := smallGo 19 0 r
theorem smallGo_at (k : Nat) (hk : k < 19) (r : Int) : smallGo (19 - k) k r = if r < rowF k then r else if r ≤ rowL k ∧ (r - rowF k) % rowS k = 0 then r + rowP k else smallGo (19 - (k + 1)) (k + 1) r := by
  obtain ⟨n, hn⟩ : ∃ n, 19 - k = n + 1 := ⟨19 - k - 1, by omega⟩
  have hn' : 19 - (k + 1) = n := by omega
  rw [hn, hn', smallGo]
theorem ret_int {k : IntKind} {a b : Int} (h : a = b) : Ending.returned (.int k a) = .returned (.int k b) := by rw [h]
theorem ret_bool {a b : Bool} (h : a = b) : Ending.returned (.bool a) = .returned (.bool b) := by rw [h]
theorem ret_str {a b : ByteArray} (h : a = b) : Ending.returned (.string a) = .returned (.string b) := by rw [h]
/-- A wrong byte at a place. -/
def wrongAt (s : ByteArray) (pos : Nat) : Bool := decide (Utf8.decode s pos = (65533, 1))
def mark : ByteArray := ⟨#[239, 191, 189]⟩
def wrongB (s : ByteArray) (pos : Nat) (r : Int) : Bool := r == 65533 && !(Lib.hasPrefix (s.extract pos s.size).data.toList mark.data.toList)
def validFrom (s : ByteArray) : Nat → Nat → Bool
  | 0, _ => true
  | f + 1, pos => if pos < s.size then (if wrongAt s pos then false else validFrom s f (pos + (Utf8.decode s pos).2)) else true
def valid (s : ByteArray) : Bool := validFrom s s.size 0
def foldFrom (s : ByteArray) : Nat → Nat → List UInt8
  | 0, _ => []
  | f + 1, pos => if pos < s.size then (if wrongAt s pos then [s.get! pos] else Lib.encodeRune (small (Utf8.decode s pos).1)) ++ foldFrom s f (pos + (Utf8.decode s pos).2) else []
def fold (s : ByteArray) : ByteArray := ⟨(foldFrom s s.size 0).toArray⟩
def withinGo (s : ByteArray) (a : Nat) : Nat → Nat → Bool
  | 0, _ => false
  | n + 1, k => if a < k + (Utf8.decode s k).2 then true else withinGo s a n (k + 1)
/-- Is a place within a sign? -/
def withinB (s : ByteArray) (a : Nat) : Bool := withinGo s a (a - (a - 3)) (a - 3)
theorem withinGo_at (s : ByteArray) (a k : Nat) (h : k < a) : withinGo s a (a - k) k = if a < k + (Utf8.decode s k).2 then true else withinGo s a (a - (k + 1)) (k + 1) := by
  obtain ⟨n, hn⟩ : ∃ n, a - k = n + 1 := ⟨a - k - 1, by omega⟩
  have hn' : a - (k + 1) = n := by omega
  rw [hn, hn', withinGo]
/-- S4, as the Go text reckons it. -/
def edgeN (s : ByteArray) (a : Nat) : Bool :=
  if withinB s a then false else if a = 0 ∨ a = s.size then true
  else !wordB (Lib.decodeLastL (s.extract 0 a).data.toList).1 || !wordB (Utf8.decode s a).1
def edgeB (s : ByteArray) (a : Int) : Bool := if a < 0 ∨ (s.size : Int) < a then false else edgeN s a.toNat
theorem decodeGo_tail (s : ByteArray) (k : Nat) (h : k < s.size) : Lib.decodeGo (s.extract k s.size) = Utf8.decode s k := by
  unfold Lib.decodeGo
  rw [if_neg (by rw [ByteArray.size_extract]; omega), Lib.tail_decode, Nat.add_zero]
end Go.Sg
namespace Go.Sg
theorem decodeN_fffd (n b0 b1 b2 b3 : Nat) (h : (Lib.decodeN n b0 b1 b2 b3).1 = 65533) :
    Lib.decodeN n b0 b1 b2 b3 = (65533, 1) ∨ (Lib.decodeN n b0 b1 b2 b3 = (65533, 3) ∧ 2 < n ∧ b0 = 239 ∧ b1 = 191 ∧ b2 = 189) := by
  unfold Lib.decodeN at h ⊢
  repeat' split
  all_goals simp_all
  all_goals omega
theorem decodeN_mark (n b3 : Nat) (h : 2 < n) : Lib.decodeN n 239 191 189 b3 = (65533, 3) := by
  have h1 : 1 < n := by omega
  simp [Lib.decodeN, h, h1]
theorem get!_drop (s : ByteArray) (pos i : Nat) : s.get! (pos + i) = (s.data.toList.drop pos).getD i 0 := by
  rw [← Lib.getD_get!]
  simp [List.getD]
theorem hasMark (s : ByteArray) (pos : Nat) : Lib.hasPrefix (s.extract pos s.size).data.toList mark.data.toList = true ↔ (pos + 2 < s.size ∧ (s.get! pos).toNat = 239 ∧ (s.get! (pos + 1)).toNat = 191 ∧ (s.get! (pos + 2)).toNat = 189) := by
  have e : (s.extract pos s.size).data.toList = s.data.toList.drop pos := by
    rw [Lib.extract_data, Lib.size_eq, List.take_of_length_le (by simp)]
  have hl : s.size = s.data.toList.length := Lib.size_eq s
  have hn : (s.data.toList.drop pos).length = s.size - pos := by rw [List.length_drop, ← hl]
  have g0 := get!_drop s pos 0
  rw [Nat.add_zero] at g0
  rw [e, g0, get!_drop s pos 1, get!_drop s pos 2]
  generalize s.data.toList.drop pos = l at *
  have k (a : UInt8) (n : Nat) (hn : n < 256) : a.toNat = n ↔ a = UInt8.ofNat n := by
    constructor
    · intro h; subst h; simp
    · intro h; subst h; simp; omega
  rw [k _ 239 (by omega), k _ 191 (by omega), k _ 189 (by omega)]
  unfold Lib.hasPrefix mark
  match l, hn with
  | [], hn => simp at hn; simp
  | [a], hn => simp at hn; simp
  | [a, b], hn => simp at hn; simp
  | a :: b :: c :: r, hn =>
    simp at hn
    simp [List.isPrefixOf]
    constructor
    · rintro ⟨rfl, rfl, rfl⟩; exact ⟨by omega, rfl, rfl, rfl⟩
    · rintro ⟨_, rfl, rfl, rfl⟩; exact ⟨rfl, rfl, rfl⟩
theorem wrongB_decode (s : ByteArray) (pos : Nat) : wrongB s pos ((Utf8.decode s pos).1 : Int) = wrongAt s pos := by
  unfold wrongB wrongAt
  have hm := hasMark s pos
  have hd := Lib.decode_at s pos
  apply Bool.eq_iff_iff.2
  simp only [Bool.and_eq_true, beq_iff_eq, Bool.not_eq_true', decide_eq_true_eq]
  constructor
  · rintro ⟨h1, h2⟩
    have h1' : (Utf8.decode s pos).1 = 65533 := by omega
    rw [hd] at h1' ⊢
    rcases decodeN_fffd _ _ _ _ _ h1' with h | ⟨_, h3⟩
    · exact h
    · rw [hm.2 ⟨by omega, h3.2⟩] at h2
      cases h2
  · intro h
    refine ⟨by rw [h]; rfl, ?_⟩
    cases hb : Lib.hasPrefix (s.extract pos s.size).data.toList mark.data.toList with
    | false => rfl
    | true =>
      obtain ⟨h1, h2, h3, h4⟩ := hm.1 hb
      rw [hd, h2, h3, h4, decodeN_mark _ _ (by omega)] at h
      cases h
/-- The class of a sign: which numbers have how many bytes. -/
def Cls (r : Int) (n : Nat) : Prop := (0 ≤ r ∧ r ≤ 127 ∧ n = 1) ∨ (128 ≤ r ∧ r ≤ 2047 ∧ n = 2) ∨ (((2048 ≤ r ∧ r < 55296) ∨ (57343 < r ∧ r ≤ 65535)) ∧ n = 3) ∨ (65536 ≤ r ∧ r ≤ 1114111 ∧ n = 4)
theorem decodeN_cls (n b0 b1 b2 b3 : Nat) (h0 : b0 < 256) (h : Lib.decodeN n b0 b1 b2 b3 ≠ (65533, 1)) : Cls (Lib.decodeN n b0 b1 b2 b3).1 (Lib.decodeN n b0 b1 b2 b3).2 := by
  unfold Cls
  unfold Lib.decodeN at h ⊢
  repeat' split
  all_goals simp_all
  all_goals omega
theorem decode_cls (s : ByteArray) (pos : Nat) (h : wrongAt s pos = false) : Cls (Utf8.decode s pos).1 (Utf8.decode s pos).2 := by
  unfold wrongAt at h
  have h' := of_decide_eq_false h
  rw [Lib.decode_at] at h' ⊢
  exact decodeN_cls _ _ _ _ _ (UInt8.toNat_lt _) h'
theorem decodeN_in (n b0 b1 b2 b3 : Nat) (h : 0 < n) : (Lib.decodeN n b0 b1 b2 b3).2 ≤ n := by
  unfold Lib.decodeN
  repeat' split
  all_goals simp_all
  all_goals omega
theorem decode_in (s : ByteArray) (pos : Nat) (h : pos < s.size) : pos + (Utf8.decode s pos).2 ≤ s.size := by
  rw [Lib.decode_at]
  have := decodeN_in (s.size - pos) (s.get! pos).toNat (s.get! (pos + 1)).toNat (s.get! (pos + 2)).toNat (s.get! (pos + 3)).toNat (by omega)
  omega
theorem enc_len {r : Int} {n : Nat} (h : Cls r n) : (Lib.encodeRune r).length = n := by
  unfold Lib.encodeRune
  rcases h with ⟨a, b, rfl⟩ | ⟨a, b, rfl⟩ | ⟨a, rfl⟩ | ⟨a, b, rfl⟩
  · rw [Lib.encodeRuneZ_one a b]; rfl
  · rw [Lib.encodeRuneZ_two a b]; rfl
  · rw [Lib.encodeRuneZ_three a]; rfl
  · rw [Lib.encodeRuneZ_four a b]; rfl
theorem row_cls : ∀ k, k < 19 → (0 ≤ rowF k ∧ rowL k ≤ 127 ∧ 0 ≤ rowF k + rowP k ∧ rowL k + rowP k ≤ 127) ∨ (128 ≤ rowF k ∧ rowL k ≤ 2047 ∧ 128 ≤ rowF k + rowP k ∧ rowL k + rowP k ≤ 2047) ∨ (57344 ≤ rowF k ∧ rowL k ≤ 65500 ∧ 57344 ≤ rowF k + rowP k ∧ rowL k + rowP k ≤ 65500) := by decide
theorem smallGo_cases : ∀ (n k : Nat) (r : Int), n + k ≤ 19 → smallGo n k r = r ∨ ∃ j, j < 19 ∧ rowF j ≤ r ∧ r ≤ rowL j ∧ (r - rowF j) % rowS j = 0 ∧ smallGo n k r = r + rowP j
  | 0, _, _, _ => .inl rfl
  | n + 1, k, r, h => by
    unfold smallGo
    split
    · exact .inl rfl
    · split
      · rename_i h1 h2
        exact .inr ⟨k, by omega, by omega, h2.1, h2.2, rfl⟩
      · exact smallGo_cases n (k + 1) r (by omega)
theorem small_cases (r : Int) : small r = r ∨ ∃ j, j < 19 ∧ rowF j ≤ r ∧ r ≤ rowL j ∧ (r - rowF j) % rowS j = 0 ∧ small r = r + rowP j := smallGo_cases 19 0 r (by omega)
theorem small_cls {r : Int} {n : Nat} (h : Cls r n) : Cls (small r) n := by
  rcases small_cases r with e | ⟨j, hj, h1, h2, _, e⟩
  · rw [e]; exact h
  · rw [e]
    have := row_cls j hj
    have := row_facts j hj
    unfold Cls at h ⊢
    omega
theorem small_bd (r : Int) (h0 : 0 ≤ r) (h1 : r ≤ 1114111) : 0 ≤ small r ∧ small r ≤ 1114111 := by
  rcases small_cases r with e | ⟨j, hj, h1, h2, _, e⟩
  · rw [e]; omega
  · have := row_cls j hj
    have := row_facts j hj
    omega
theorem piece_len (s : ByteArray) (pos : Nat) : (if wrongAt s pos then [s.get! pos] else Lib.encodeRune (small (Utf8.decode s pos).1)).length = (Utf8.decode s pos).2 := by
  cases h : wrongAt s pos with
  | true =>
    have := of_decide_eq_true h
    simp [this]
  | false => simpa using enc_len (small_cls (decode_cls s pos h))
theorem foldFrom_end (s : ByteArray) (f pos : Nat) (h : ¬ pos < s.size) : foldFrom s f pos = [] := by
  cases f with
  | zero => rfl
  | succ f => simp [foldFrom, h]
theorem validFrom_end (s : ByteArray) (f pos : Nat) (h : ¬ pos < s.size) : validFrom s f pos = true := by
  cases f with
  | zero => rfl
  | succ f => simp [validFrom, h]
theorem foldFrom_len (s : ByteArray) : ∀ f pos, pos ≤ s.size → s.size ≤ pos + f → (foldFrom s f pos).length = s.size - pos
  | 0, pos, h, h' => by simp [foldFrom]; omega
  | f + 1, pos, h, h' => by
    unfold foldFrom
    split
    · rename_i hp
      have hw := Lib.width_pos s pos
      have hi := decode_in s pos hp
      rw [List.length_append, piece_len, foldFrom_len s f _ (by omega) (by omega)]
      omega
    · simp; omega
theorem fold_size (s : ByteArray) : (fold s).size = s.size := by
  have := foldFrom_len s s.size 0 (by omega) (by omega)
  unfold fold
  rw [Lib.size_eq]
  simpa using this
end Go.Sg
namespace Go.Proofs
open Go.RowKit Go.Jv
theorem Jv.extract_get (t : ByteArray) (p k : Nat) (h : p + k < t.size) : (t.extract p t.size).get! k = t.get! (p + k) := by
  have h2 : k < (t.extract p t.size).size := by rw [ByteArray.size_extract]; omega
  rw [← Jv.get_eq _ k h2, ← Jv.get_eq t (p + k) h]
  simp [ByteArray.getElem_extract]
theorem Jv.fullAt_eq (t : ByteArray) (p : Nat) (h : p < t.size) : fullN (t.extract p t.size).size ((t.extract p t.size).get! 0).toNat ((t.extract p t.size).get! 1).toNat ((t.extract p t.size).get! 2).toNat = fullAt t p := by
  have hz : (t.extract p t.size).size = t.size - p := by rw [ByteArray.size_extract]; omega
  rw [hz, Jv.extract_get t p 0 (by omega)]
  unfold fullAt fullN
  by_cases h1 : p + 1 < t.size
  · rw [Jv.extract_get t p 1 h1]
    by_cases h2 : p + 2 < t.size
    · rw [Jv.extract_get t p 2 h2]; rfl
    · have e : ∀ c : Nat, (2 < t.size - p ∧ (c < 128 ∨ 191 < c)) = False := fun c => by simp; omega
      simp only [e, Nat.add_zero]
  · have e : ∀ c d : Nat, (2 < t.size - p ∧ (c < 128 ∨ 191 < c)) = False := fun c d => by simp; omega
    have e1 : ∀ a c d : Nat, (1 < t.size - p ∧ (c < a ∨ d < c)) = False := fun a c d => by simp; omega
    simp only [e _ 0, e1, Nat.add_zero]
theorem Jv.decodeGo_tail (s : ByteArray) (k : Nat) (h : k < s.size) : Lib.decodeGo (s.extract k s.size) = Utf8.decode s k := by
  unfold Lib.decodeGo
  rw [if_neg (by rw [ByteArray.size_extract]; omega), Lib.tail_decode, Nat.add_zero]
theorem Jv.signAt_ok {t : ByteArray} {p r q : Nat} (h : signAt t p = .ok (r, q)) (hp : p < t.size) : r ≤ 1114111 ∧ p < q ∧ q ≤ t.size := by
  unfold signAt at h
  split at h
  · cases h
  · split at h
    · cases h
    · next hw =>
      have hc := Sg.decode_cls t p (by unfold Sg.wrongAt; simp [hw])
      have hi := Sg.decode_in t p hp
      injection h with h
      injection h with h1 h2
      unfold Sg.Cls at hc
      omega
theorem Tryz.begin_ok {w : World} {b : Nat} {t : ByteArray} {p o : Nat} (h : Rd w b t p o) (hlt : p < t.size) (ho10 : o < 10) :
    Calls Tryz.prog 127 #[.pointer (some ⟨b, 0, none⟩)] w fun en w' => en = .returned (.tuple #[]) ∧ Rd w' b t (p + 1) (o + 1) ∧ Wk b w w' := by
  have H0 : Hid (Rd w b t p o) := h
  obtain ⟨c0, c1, c2, f0, f1, f2, hb, hp, ht, ho⟩ := h
  go_enter Tryz.func127, Tryz.ntmps127
  go_wp2
  go_end0
  exact ⟨rfl, (H0.out.openN 0 (o + 1) _ (by omega) (by omega)).at0 _ _ (by omega) hlt, ((Wk.refl b w).setCell _ _ _).setCell _ _ _⟩
theorem Tryz.begin_bad {w : World} {b : Nat} {t : ByteArray} {p : Nat} (h : Rd w b t p 10) :
    Calls Tryz.prog 127 #[.pointer (some ⟨b, 0, none⟩)] w fun en w' => Bad 88 p eDepth en w' ∧ Wk b w w' := by
  obtain ⟨c0, c1, c2, f0, f1, f2, hb, hp, ht, ho⟩ := h
  go_enter Tryz.func127, Tryz.ntmps127
  go_wp2_with (go_at_call 53; refine (Tryz.fault_any _ _ _).mono ?_; rintro e w' ⟨rfl, rfl⟩)
  exact ⟨rfl, Jv.bad_new (n := 0) hb⟩
theorem Tryz.sign_any {w : World} {b : Nat} {t : ByteArray} {p o : Nat} (h : Rd w b t p o) (hlt : p < t.size) (hT : Tryz.Tb w) (_hbg : 8 ≤ b) :
    Calls Tryz.prog 126 #[.pointer (some ⟨b, 0, none⟩)] w fun en w' =>
      (∃ r q, signAt t p = .ok (r, q) ∧ en = .returned (.int .i32 r) ∧ Rd w' b t q o ∧ Wk b w w') ∨ (∃ p' e, signAt t p = .bad p' e ∧ Bad 88 p' e en w' ∧ Wk b w w') := by
  have hF := Tryz.fullRune_any (t.extract p t.size)
  rw [Jv.fullAt_eq t p hlt] at hF
  have hD := Tryz.utf8_DecodeRuneInString (t.extract p t.size)
  rw [Jv.decodeGo_tail t p hlt] at hD
  have hz : (t.extract p t.size).size = t.size - p := by rw [ByteArray.size_extract]; omega
  have H0 : Hid (Rd w b t p o) := h
  obtain ⟨c0, c1, c2, f0, f1, f2, hb, hp, ht, ho⟩ := h
  have hF0 := fun w => hF w (by omega) (by omega)
  clear hF
  cases hf : fullAt t p with
  | false =>
    have hS : signAt t p = .bad t.size eSyntax := by unfold signAt; rw [if_pos hf]
    have HS : Hid (signAt t p = .bad t.size eSyntax) := hS
    rw [hf] at hF0
    clear hf hz hD hS
    go_enter Tryz.func126, Tryz.ntmps126
    go_wp2
    go_quiet (fail)
    go_wp2_with (first | (go_at_call 158; refine (hF0 _ (hT.drewN _).here.u8).mono ?_; rintro e w1 ⟨rfl, hb1⟩; have hR1 := (H0.out.drewN _).below hb1; have hW1 := ((Wk.refl b w).drewN _).below hb1 (Nat.le_refl _); obtain ⟨d0, d1, d2, g0, g1, g2, hbb, -, -, -⟩ := hR1) | (go_at_call 53; refine (Tryz.fault_any _ _ _).mono ?_; rintro e w' ⟨rfl, rfl⟩))
    have hq := Jv.bad_new (T := 88) (U := 100) (n := 0) (p := t.size) (e := 20) hbb
    exact ⟨rfl, Or.inr ⟨_, _, HS.out, hq.1, hW1.trans hq.2⟩⟩
  | true =>
    rw [hf] at hF0
    have hdl : p + (Utf8.decode t p).2 ≤ t.size := Sg.decode_in t p hlt
    by_cases hw : Utf8.decode t p = (65533, 1)
    · have hS : signAt t p = .bad p eUtf8 := by unfold signAt; rw [if_neg (by simp [hf]), if_pos hw]
      have HS : Hid (signAt t p = .bad p eUtf8) := hS
      rw [hw] at hD
      clear hf hz hS hw hdl
      go_enter Tryz.func126, Tryz.ntmps126
      go_wp2
      go_quiet (fail)
      go_wp2_with (first | (go_at_call 158; refine (hF0 _ (hT.drewN _).here.u8).mono ?_; rintro e w1 ⟨rfl, hb1⟩; have hT1 := (hT.drewN _).below hb1 hT.size; have hR1 := (H0.out.drewN _).below hb1; have hW1 := ((Wk.refl b w).drewN _).below hb1 (Nat.le_refl _); have HR1 : Hid (Rd w1 b t p o) := hR1; clear hR1) | (go_at_call 66; refine (hD _ hT1.here.u8).mono ?_; rintro e w2 ⟨rfl, hb2⟩; have hR2 := HR1.out.below hb2; have hW2 := hW1.below hb2 hW1.size; obtain ⟨d0, d1, d2, g0, g1, g2, hbb, -, -, -⟩ := hR2) | (go_at_call 53; refine (Tryz.fault_any _ _ _).mono ?_; rintro e w' ⟨rfl, rfl⟩))
      have hq := Jv.bad_new (T := 88) (U := 100) (n := 0) (p := p) (e := 10) hbb
      exact ⟨rfl, Or.inr ⟨_, _, HS.out, hq.1, hW2.trans hq.2⟩⟩
    · have hS : signAt t p = .ok ((Utf8.decode t p).1, p + (Utf8.decode t p).2) := by unfold signAt; rw [if_neg (by simp [hf]), if_neg hw]
      have HS : Hid (signAt t p = .ok ((Utf8.decode t p).1, p + (Utf8.decode t p).2)) := hS
      have hw' : ¬ (((Utf8.decode t p).1 : Int) = 65533 ∧ ((Utf8.decode t p).2 : Int) = 1) := fun h => hw (Prod.ext (by have := h.1; omega) (by have := h.2; omega))
      clear hf hz hS hw
      generalize Utf8.decode t p = D at *
      obtain ⟨r, z⟩ := D
      by_cases h1 : (r : Int) = 65533
      · have h2 : ¬ (z : Int) = 1 := fun h => hw' ⟨h1, h⟩
        clear hw'
        go_enter Tryz.func126, Tryz.ntmps126
        go_wp2
        go_quiet (fail)
        go_wp2_with (first | (go_at_call 158; refine (hF0 _ (hT.drewN _).here.u8).mono ?_; rintro e w1 ⟨rfl, hb1⟩; have hT1 := (hT.drewN _).below hb1 hT.size; have hR1 := (H0.out.drewN _).below hb1; have hW1 := ((Wk.refl b w).drewN _).below hb1 (Nat.le_refl _); have HR1 : Hid (Rd w1 b t p o) := hR1; clear hR1) | (go_at_call 66; refine (hD _ hT1.here.u8).mono ?_; rintro e w2 ⟨rfl, hb2⟩; have hR2 := HR1.out.below hb2; have hW2 := hW1.below hb2 hW1.size; have HR2 : Hid (Rd w2 b t p o) := hR2; obtain ⟨d0, d1, d2, g0, g1, g2, hbb, -, -, -⟩ := hR2))
        go_ret
        exact Or.inl ⟨r, p + z, HS.out, Jv.ret_int (by omega), HR2.out.at0 _ _ (by omega) hdl, hW2.setCell _ _ _⟩
      · clear hw'
        go_enter Tryz.func126, Tryz.ntmps126
        go_wp2
        go_quiet (fail)
        go_wp2_with (first | (go_at_call 158; refine (hF0 _ (hT.drewN _).here.u8).mono ?_; rintro e w1 ⟨rfl, hb1⟩; have hT1 := (hT.drewN _).below hb1 hT.size; have hR1 := (H0.out.drewN _).below hb1; have hW1 := ((Wk.refl b w).drewN _).below hb1 (Nat.le_refl _); have HR1 : Hid (Rd w1 b t p o) := hR1; clear hR1) | (go_at_call 66; refine (hD _ hT1.here.u8).mono ?_; rintro e w2 ⟨rfl, hb2⟩; have hR2 := HR1.out.below hb2; have hW2 := hW1.below hb2 hW1.size; have HR2 : Hid (Rd w2 b t p o) := hR2; obtain ⟨d0, d1, d2, g0, g1, g2, hbb, -, -, -⟩ := hR2))
        go_ret
        exact Or.inl ⟨r, p + z, HS.out, rfl, HR2.out.at0 _ _ (by omega) hdl, hW2.setCell _ _ _⟩
end Go.Proofs
namespace Go.Proofs
open Go.RowKit Go.Jv
def Jv.escL : List UInt8 := [34, 92, 47, 98, 102, 110, 114, 116]
def Jv.escB : ByteArray := ⟨#[34, 92, 47, 8, 12, 10, 13, 9]⟩
theorem Jv.esc_some (c x : UInt8) (h : escOf c = some x) : ∃ k : Nat, ∃ hk : k < 8, Lib.indexByte [34, 92, 47, 98, 102, 110, 114, 116] c = k ∧ (⟨#[34, 92, 47, 8, 12, 10, 13, 9]⟩ : ByteArray)[k]'hk = x := by
  unfold escOf at h
  repeat' split at h
  all_goals first
    | (next hc => subst hc; obtain rfl := Option.some.inj h; first | exact ⟨0, by decide, by decide, by decide⟩ | exact ⟨1, by decide, by decide, by decide⟩ | exact ⟨2, by decide, by decide, by decide⟩ | exact ⟨3, by decide, by decide, by decide⟩ | exact ⟨4, by decide, by decide, by decide⟩ | exact ⟨5, by decide, by decide, by decide⟩ | exact ⟨6, by decide, by decide, by decide⟩ | exact ⟨7, by decide, by decide, by decide⟩)
    | cases h
theorem Jv.esc_none (c : UInt8) (h : escOf c = none) : Lib.indexByte [34, 92, 47, 98, 102, 110, 114, 116] c = -1 := by
  have hd : ∀ n : Fin 256, escOf (UInt8.ofNat n) = none → Lib.indexByte [34, 92, 47, 98, 102, 110, 114, 116] (UInt8.ofNat n) = -1 := by decide +kernel
  have := hd ⟨c.toNat, c.toNat_lt⟩
  simpa [h] using this
theorem Tryz.unit_ok {w : World} {b : Nat} {t : ByteArray} {p o fr n : Nat} (hu : unit t fr p = .ok n) (h : Rd w b t p o) (hfr : fr ≤ 4096) :
    Calls Tryz.prog 157 #[.pointer (some ⟨b, 0, none⟩), .int .i64 fr] w fun en w' => en = .returned (.int .i32 n) ∧ Rd w' b t (p + 6) o ∧ Wk b w w' := by
  refine (Tryz.unit_any h fr hfr).mono fun e w' hq => ?_
  rcases hq with ⟨m, hm, rfl, _, hR, hW⟩ | ⟨p', e', hm, _⟩
  · rw [hu] at hm; obtain rfl : n = m := by injection hm
    exact ⟨rfl, hR, hW⟩
  · rw [hu] at hm; cases hm
theorem Tryz.unit_bad {w : World} {b : Nat} {t : ByteArray} {p o fr p' e' : Nat} (hu : unit t fr p = .bad p' e') (h : Rd w b t p o) (hfr : fr ≤ 4096) :
    Calls Tryz.prog 157 #[.pointer (some ⟨b, 0, none⟩), .int .i64 fr] w fun en w' => Bad 88 p' e' en w' ∧ Wk b w w' := by
  refine (Tryz.unit_any h fr hfr).mono fun e w' hq => ?_
  rcases hq with ⟨m, hm, _⟩ | ⟨p2, e2, hm, hB, hW⟩
  · rw [hu] at hm; cases hm
  · rw [hu] at hm; injection hm with h1 h2; subst h1; subst h2
    exact ⟨hB, hW⟩
theorem Jv.unitFrom_lt (t : ByteArray) (fr : Nat) : ∀ (k p n m : Nat), k ≤ 6 → unitFrom t fr k p n = .ok m → (k ≤ 4 → m < (n + 1) * 16 ^ k) ∧ (4 < k → n = 0 → m < 65536)
  | 0, p, n, m, _, h => by
    injection h with h; subst h
    exact ⟨fun _ => by omega, fun h => by omega⟩
  | k + 1, p, n, m, hk, h => by
    rw [unitFrom] at h
    split at h
    · split at h
      · split at h
        · next h5 _ => subst h5; have := Jv.unitFrom_lt t fr 5 _ _ _ (by omega) h; exact ⟨fun h => by omega, fun _ h0 => this.2 (by omega) h0⟩
        · cases h
      · split at h
        · split at h
          · next h4 _ => subst h4; have := Jv.unitFrom_lt t fr 4 _ _ _ (by omega) h; exact ⟨fun h => by omega, fun _ h0 => by have := this.1 (by omega); subst h0; simpa using this⟩
          · cases h
        · split at h
          · next d hd =>
            have hd16 := Jv.hexOf_lt _ _ hd
            have := (Jv.unitFrom_lt t fr k _ _ _ (by omega) h).1 (by omega)
            refine ⟨fun _ => ?_, fun h => by omega⟩
            rw [Nat.pow_succ]
            have h2 : (16 * n + d + 1) * 16 ^ k ≤ (n + 1) * (16 ^ k * 16) := by
              have : 16 * n + d + 1 ≤ (n + 1) * 16 := by omega
              calc (16 * n + d + 1) * 16 ^ k ≤ ((n + 1) * 16) * 16 ^ k := Nat.mul_le_mul_right _ this
                _ = (n + 1) * (16 ^ k * 16) := by rw [Nat.mul_assoc, Nat.mul_comm 16]
            omega
          · cases h
    · cases h
theorem Jv.unit_lt {t : ByteArray} {fr p n : Nat} (h : unit t fr p = .ok n) : n < 65536 := (Jv.unitFrom_lt t fr 6 p 0 n (by omega) h).2 (by omega) rfl
set_option maxHeartbeats 4000000 in
set_option maxRecDepth 20000 in
theorem Tryz.escape_any {w : World} {b : Nat} {t : ByteArray} {p o : Nat} (h : Rd w b t p o) (hlt : p < t.size) :
    Calls Tryz.prog 125 #[.pointer (some ⟨b, 0, none⟩)] w fun en w' =>
      (∃ r q, escape t p = .ok (r, q) ∧ en = .returned (.int .i32 r) ∧ Rd w' b t q o ∧ Wk b w w') ∨ (∃ p' e, escape t p = .bad p' e ∧ Bad 88 p' e en w' ∧ Wk b w w') := by
  have HR : Hid (Rd w b t p o) := h
  have hR1 : Rd (w.setCell ⟨b, 1, none⟩ (.int .i64 ((p : Int) + 1))) b t (p + 1) o := h.at0 (p + 1) _ (by omega) hlt
  have hW1 : Wk b w (w.setCell ⟨b, 1, none⟩ (.int .i64 ((p : Int) + 1))) := (Wk.refl b w).setCell _ _ _
  obtain ⟨c0, c1, c2, f0, f1, f2, hb, hp, ht, ho⟩ := h
  by_cases hl1 : p + 1 < t.size
  · have hnx := Tryz.next_ok hR1 hl1
    have hn : next t (p + 1) = .ok (t.get! (p + 1)) := by unfold next; rw [if_pos hl1]
    have hesc : escape t p = (match escOf (t.get! (p + 1)) with
      | some x => R.ok (x.toNat, p + 2)
      | none => (unit t p p).bind fun high =>
        if high < 55296 ∨ 57343 < high then .ok (high, p + 6)
        else if 56320 ≤ high then .bad p eSyntax
        else (unit t p (p + 6)).bind fun low => if low < 56320 ∨ 57343 < low then .bad p eSyntax else .ok (65536 + (high - 55296) * 1024 + (low - 56320), p + 12)) := by
      unfold escape; rw [hn]; rfl
    generalize t.get! (p + 1) = c at hnx hesc
    clear hn
    cases hx : escOf c with
    | some x =>
      rw [hx] at hesc
      have HE : Hid (escape t p = .ok (x.toNat, p + 2)) := hesc
      obtain ⟨k, hk, hi, hg⟩ := Jv.esc_some c x hx
      have hib : ∀ w, Calls Tryz.prog 151 #[.string ⟨#[34, 92, 47, 98, 102, 110, 114, 116]⟩, .int .u8 c.toNat] w fun e w' => e = .returned (.int .i64 k) ∧ w' = w := fun w => by
        have := Tryz.strings_IndexByte ⟨#[34, 92, 47, 98, 102, 110, 114, 116]⟩ c.toNat w
        simpa [hi] using this
      have hx256 := x.toNat_lt
      clear hx hesc hi
      go_enter Tryz.func125, Tryz.ntmps125
      go_wp2_with (first | (go_at_call 102; refine hnx.mono ?_; rintro e w' ⟨rfl, n, rfl⟩) | (go_at_call 151; refine (hib _).mono ?_; rintro e w' ⟨rfl, rfl⟩))
      go_ret
      exact Or.inl ⟨_, _, HE.out, rfl, hR1.atN _ _ _ (by omega) (by omega), (hW1.drewN _).setCell _ _ _⟩
    | none =>
      rw [hx] at hesc
      have HE : Hid (escape t p = _) := hesc
      have hi := Jv.esc_none c hx
      have hib : ∀ w, Calls Tryz.prog 151 #[.string ⟨#[34, 92, 47, 98, 102, 110, 114, 116]⟩, .int .u8 c.toNat] w fun e w' => e = .returned (.int .i64 (-1)) ∧ w' = w := fun w => by
        have := Tryz.strings_IndexByte ⟨#[34, 92, 47, 98, 102, 110, 114, 116]⟩ c.toNat w
        simpa [hi] using this
      clear hx hesc hi
      cases hu : unit t p p with
      | bad p' e' =>
        have HX : Hid (escape t p = .bad p' e') := by have h1 := HE.out; rw [hu] at h1; exact h1
        clear HE
        go_enter Tryz.func125, Tryz.ntmps125
        go_wp2_with (first | (go_at_call 102; refine hnx.mono ?_; rintro e w' ⟨rfl, n, rfl⟩) | (go_at_call 151; refine (hib _).mono ?_; rintro e w' ⟨rfl, rfl⟩) | (go_at_call 157; refine (Tryz.unit_bad hu (hR1.atN _ p _ rfl (by omega)) (by omega)).mono ?_; rintro e w2 ⟨⟨x, hx, rfl, hx0, hx1⟩, hW2⟩; have hW3 := ((hW1.drewN _).setCell _ _ _).trans hW2))
        exact ⟨rfl, Or.inr ⟨_, _, HX.out, ⟨x, hx, rfl, hx0, hx1⟩, hW3⟩⟩
      | ok high =>
        have hh := Jv.unit_lt hu
        have HE2 : Hid (escape t p = (if high < 55296 ∨ 57343 < high then .ok (high, p + 6)
          else if 56320 ≤ high then .bad p eSyntax
          else (unit t p (p + 6)).bind fun low => if low < 56320 ∨ 57343 < low then .bad p eSyntax else .ok (65536 + (high - 55296) * 1024 + (low - 56320), p + 12))) := by
          have h1 := HE.out; rw [hu] at h1; exact h1
        clear HE
        by_cases ha : high < 55296
        · have HX : Hid (escape t p = .ok (high, p + 6)) := by have h1 := HE2.out; rw [if_pos (Or.inl ha)] at h1; exact h1
          go_enter Tryz.func125, Tryz.ntmps125
          go_wp2_with (first | (go_at_call 102; refine hnx.mono ?_; rintro e w' ⟨rfl, n, rfl⟩) | (go_at_call 151; refine (hib _).mono ?_; rintro e w' ⟨rfl, rfl⟩) | (go_at_call 157; refine (Tryz.unit_ok hu (hR1.atN _ p _ rfl (by omega)) (by omega)).mono ?_; clear hu; rintro e w2 ⟨rfl, hR2, hW2⟩; have HR2 : Hid (Rd w2 b t (p + 6) o) := hR2; have hW3 := ((hW1.drewN _).setCell _ _ _).trans hW2; obtain ⟨d0, d1, d2, g0, g1, g2, hbb, -, -, -⟩ := hR2))
          go_ret
          exact Or.inl ⟨_, _, HX.out, rfl, HR2.out, hW3⟩
        · by_cases hc2 : 57343 < high
          · have HX : Hid (escape t p = .ok (high, p + 6)) := by have h1 := HE2.out; rw [if_pos (Or.inr hc2)] at h1; exact h1
            go_enter Tryz.func125, Tryz.ntmps125
            go_wp2_with (first | (go_at_call 102; refine hnx.mono ?_; rintro e w' ⟨rfl, n, rfl⟩) | (go_at_call 151; refine (hib _).mono ?_; rintro e w' ⟨rfl, rfl⟩) | (go_at_call 157; refine (Tryz.unit_ok hu (hR1.atN _ p _ rfl (by omega)) (by omega)).mono ?_; clear hu; rintro e w2 ⟨rfl, hR2, hW2⟩; have HR2 : Hid (Rd w2 b t (p + 6) o) := hR2; have hW3 := ((hW1.drewN _).setCell _ _ _).trans hW2; obtain ⟨d0, d1, d2, g0, g1, g2, hbb, -, -, -⟩ := hR2))
            go_ret
            exact Or.inl ⟨_, _, HX.out, rfl, HR2.out, hW3⟩
          · by_cases hd : 56320 ≤ high
            · have HX : Hid (escape t p = .bad p eSyntax) := by have h1 := HE2.out; rw [if_neg (by omega), if_pos hd] at h1; exact h1
              have ia : (55296 : Int) ≤ high := by omega
              have ib : (high : Int) ≤ 57343 := by omega
              have ic : (56320 : Int) ≤ high := by omega
              clear ha hc2 hd hh HE2
              go_enter Tryz.func125, Tryz.ntmps125
              go_wp2_with (first | (go_at_call 102; refine hnx.mono ?_; rintro e w' ⟨rfl, n, rfl⟩) | (go_at_call 151; refine (hib _).mono ?_; rintro e w' ⟨rfl, rfl⟩) | (go_at_call 157; refine (Tryz.unit_ok hu (hR1.atN _ p _ rfl (by omega)) (by omega)).mono ?_; clear hu; rintro e w2 ⟨rfl, hR2, hW2⟩; have HR2 : Hid (Rd w2 b t (p + 6) o) := hR2; have hW3 := ((hW1.drewN _).setCell _ _ _).trans hW2; obtain ⟨d0, d1, d2, g0, g1, g2, hbb, -, -, -⟩ := hR2) | (go_at_call 53; refine (Tryz.fault_any _ _ _).mono ?_; rintro e w' ⟨rfl, rfl⟩))
              have hq := Jv.bad_new (T := 88) (U := 100) (n := 0) (p := p) (e := 20) hbb
              exact ⟨rfl, Or.inr ⟨_, _, HX.out, hq.1, hW3.trans hq.2⟩⟩
            · have HE3 : Hid (escape t p = (unit t p (p + 6)).bind fun low => if low < 56320 ∨ 57343 < low then .bad p eSyntax else .ok (65536 + (high - 55296) * 1024 + (low - 56320), p + 12)) := by
                have h1 := HE2.out; rw [if_neg (by omega), if_neg hd] at h1; exact h1
              have ia : (55296 : Int) ≤ high := by omega
              have ib : (high : Int) ≤ 57343 := by omega
              have ic : decide ((56320 : Int) ≤ high) = false := decide_eq_false (by omega)
              clear ha hc2 hd hh HE2
              cases hv : unit t p (p + 6) with
              | bad p' e' =>
                have HX : Hid (escape t p = .bad p' e') := by have h1 := HE3.out; rw [hv] at h1; exact h1
                go_enter Tryz.func125, Tryz.ntmps125
                go_wp2_with (first | (go_at_call 102; refine hnx.mono ?_; rintro e w' ⟨rfl, n, rfl⟩) | (go_at_call 151; refine (hib _).mono ?_; rintro e w' ⟨rfl, rfl⟩) | (go_at_call 157; first | (refine (Tryz.unit_bad hv HR2.out (by omega)).mono ?_; rintro e w3 ⟨⟨x, hx, rfl, hx0, hx1⟩, hW4⟩) | (refine (Tryz.unit_ok hu (hR1.atN _ p _ rfl (by omega)) (by omega)).mono ?_; clear hu; rintro e w2 ⟨rfl, hR2, hW2⟩; have HR2 : Hid (Rd w2 b t (p + 6) o) := hR2; have hW3 := ((hW1.drewN _).setCell _ _ _).trans hW2; clear hR2)))
                exact ⟨rfl, Or.inr ⟨_, _, HX.out, ⟨x, hx, rfl, hx0, hx1⟩, hW3.trans hW4⟩⟩
              | ok low =>
                have HV : Hid (unit t p (p + 6) = .ok low) := hv
                clear hv
                go_enter Tryz.func125, Tryz.ntmps125
                go_wp2_with (first | (go_at_call 102; refine hnx.mono ?_; rintro e w' ⟨rfl, n, rfl⟩) | (go_at_call 151; refine (hib _).mono ?_; rintro e w' ⟨rfl, rfl⟩) | (go_at_call 157; refine (Tryz.unit_ok hu (hR1.atN _ p _ rfl (by omega)) (by omega)).mono ?_; clear hu; rintro e w2 ⟨rfl, hR2, hW2⟩; have HR2 : Hid (Rd w2 b t (p + 6) o) := hR2; have hW3 := ((hW1.drewN _).setCell _ _ _).trans hW2; clear hR2) | fail)
                have hlw := Jv.unit_lt HV.out
                refine (Tryz.unit_ok HV.out HR2.out (by omega)).mono ?_
                rintro e w3 ⟨rfl, hR3, hW4⟩
                have HR3 : Hid (Rd w3 b t (p + 6 + 6) o) := hR3
                obtain ⟨d0, d1, d2, g0, g1, g2, hbb, -, -, -⟩ := hR3
                have HX : Hid (escape t p = if low < 56320 ∨ 57343 < low then .bad p eSyntax else .ok (65536 + (high - 55296) * 1024 + (low - 56320), p + 12)) := by have h1 := HE3.out; rw [HV.out] at h1; exact h1
                clear HE3 HV
                by_cases he1 : (56320 : Int) ≤ low
                · by_cases he2 : (low : Int) ≤ 57343
                  · have id1 : decide ((low : Int) < 56320) = false := decide_eq_false (by omega)
                    have id2 : decide ((57343 : Int) < low) = false := decide_eq_false (by omega)
                    clear hlw
                    go_wp2
                    go_ret
                    exact Or.inl ⟨_, _, HX.out.trans (if_neg (by omega)), Jv.ret_int (by omega), HR3.out, hW3.trans hW4⟩
                  · have id1 : decide ((low : Int) < 56320) = false := decide_eq_false (by omega)
                    have id2 : decide ((57343 : Int) < low) = true := decide_eq_true (by omega)
                    clear hlw
                    go_wp2_with (first | (go_at_call 53; refine (Tryz.fault_any _ _ _).mono ?_; rintro e w' ⟨rfl, rfl⟩) | fail)
                    have hq := Jv.bad_new (T := 88) (U := 100) (n := 0) (p := p) (e := 20) hbb
                    exact ⟨rfl, Or.inr ⟨_, _, HX.out.trans (if_pos (by omega)), hq.1, (hW3.trans hW4).trans hq.2⟩⟩
                · have id1 : decide ((low : Int) < 56320) = true := decide_eq_true (by omega)
                  clear hlw
                  go_wp2_with (first | (go_at_call 53; refine (Tryz.fault_any _ _ _).mono ?_; rintro e w' ⟨rfl, rfl⟩) | fail)
                  have hq := Jv.bad_new (T := 88) (U := 100) (n := 0) (p := p) (e := 20) hbb
                  exact ⟨rfl, Or.inr ⟨_, _, HX.out.trans (if_pos (by omega)), hq.1, (hW3.trans hW4).trans hq.2⟩⟩
  · have hs : p + 1 = t.size := by omega
    rw [hs] at hR1
    have hnx := Tryz.next_bad hR1
    have hE : escape t p = .bad t.size eSyntax := by
      unfold escape next; rw [if_neg hl1, hs]; rfl
    have HX : Hid (escape t p = .bad t.size eSyntax) := hE
    clear hE hs
    go_enter Tryz.func125, Tryz.ntmps125
    go_wp2_with (go_at_call 102; refine hnx.mono ?_; rintro e w' ⟨⟨x, hx, rfl, hx0, hx1⟩, hk⟩)
    exact ⟨rfl, Or.inr ⟨_, _, HX.out, ⟨x, hx, rfl, hx0, hx1⟩, hW1.trans hk⟩⟩
end Go.Proofs
namespace Go.Proofs
open Go.RowKit Go.Jv
theorem Jv.row_kept {w w' : World} {B : Nat} {e : TypeId} {size : Nat} {v : Value} {n : Nat} {xs : List Value} (h : w.ownsRow B e size v n xs) (hk : ∀ g, B ≤ g → g < w.heap.size → w'.heap[g]? = w.heap[g]?) : w'.ownsRow B e size v n xs := by
  refine ⟨h.1, ?_⟩
  rcases h.2 with h1 | ⟨g, cap, cur, h1, h2, h3, h4⟩
  · exact .inl h1
  · exact .inr ⟨g, cap, cur, h1, h2, by rw [hk g h2 (Array.getElem?_eq_some_iff.1 h3).1]; exact h3, h4⟩
theorem Jv.row_wk {w w' : World} {B b : Nat} {e : TypeId} {size : Nat} {v : Value} {n : Nat} {xs : List Value} (h : w.ownsRow B e size v n xs) (hk : Wk b w w') (hb : b < B) : w'.ownsRow B e size v n xs :=
  Jv.row_kept h fun g h1 h2 => hk.block g h2 (by omega)
theorem Jv.row_below {w w' : World} {B : Nat} {e : TypeId} {size : Nat} {v : Value} {n : Nat} {xs : List Value} (h : w.ownsRow B e size v n xs) (hk : Below w.heap.size w w') : w'.ownsRow B e size v n xs :=
  Jv.row_kept h fun g _ h2 => hk.block g h2
theorem Jv.row_block {w : World} {B : Nat} {e : TypeId} {size : Nat} {v : Value} {n : Nat} {xs : List Value} (h : w.ownsRow B e size v n xs) : ∀ k, v.ownBlock = some k → B ≤ k := by
  intro k hk
  rcases h.2 with ⟨rfl, _⟩ | ⟨g, cap, cur, rfl, h2, _⟩
  · cases hk
  · simp [Value.ownBlock] at hk; omega
theorem Jv.wk_grown {b : Nat} {w0 w1 w2 : World} {o : Obj} {row : Option Nat} (h : Wk b w0 w1) (g : (w1.alloc o).grownBy w2 row) (hr : ∀ k, row = some k → w0.heap.size ≤ k) : Wk b w0 w2 := by
  have hs : w1.heap.size ≤ (w1.alloc o).heap.size := by simp
  refine ⟨g.os.trans h.os, g.tape.trans h.tape, g.output.trans h.output, Nat.le_trans (Nat.le_trans h.size hs) g.size, fun k hk hb => ?_⟩
  have h1 := g.block k (Nat.lt_of_lt_of_le hk (Nat.le_trans h.size hs)) (fun e => by have := hr k e.symm; omega)
  exact (h1.trans (Below.heap_alloc w1 o k (Nat.lt_of_lt_of_le hk h.size))).trans (h.block k hk hb)
theorem Jv.below_grown {w1 w2 : World} {o : Obj} {row : Option Nat} {B : Nat} (g : (w1.alloc o).grownBy w2 row) (hB : B ≤ w1.heap.size) (hr : ∀ k, row = some k → B ≤ k) : Below B w1 w2 := by
  have hs : w1.heap.size ≤ (w1.alloc o).heap.size := by simp
  refine ⟨g.os, g.tape, g.output, Nat.le_trans hs g.size, fun k hk => ?_⟩
  exact (g.block k (by omega) (fun e => by have := hr k e.symm; omega)).trans (Below.heap_alloc w1 o k (by omega))
theorem Jv.rd_keep {w w' : World} {b : Nat} {t : ByteArray} {p o : Nat} (h : Rd w b t p o) (hk : w'.heap[b]? = w.heap[b]?) (hs : w.heap.size ≤ w'.heap.size) : Rd w' b t p o :=
  ⟨(World.cell?_of_block hk).trans h.c0, (World.cell?_of_block hk).trans h.c1, (World.cell?_of_block hk).trans h.c2, (World.frozen?_of_block hk).trans h.f0, (World.frozen?_of_block hk).trans h.f1, (World.frozen?_of_block hk).trans h.f2, Nat.lt_of_lt_of_le h.hb hs, h.hp, h.ht, h.ho⟩
/-- The bytes that were gathered, as a text. -/
theorem Tryz.gathered {B : Nat} {v : Value} {l : List UInt8} {W : World} (h : W.ownsRow B 5 1 v l.length (Lib.byteCells l)) :
    (convert 22 9 v).run Tryz.prog W = .ok (.string ⟨l.toArray⟩) W := by
  rcases h.2 with ⟨rfl, h0⟩ | ⟨g, cap, cur, rfl, _, hg, _, _, _, ht⟩
  · have : l = [] := List.eq_nil_of_length_eq_zero h0
    subst this
    exact run_convert_bytes_nil (P := Tryz.prog) (w := W) 22 5 Tryz.underlying22 Tryz.underlying5 _ _ 9 Tryz.underlying9
  · refine run_convert_bytes_back (P := Tryz.prog) W 22 9 5 ⟨g, 0, none⟩ cap l Tryz.underlying22 Tryz.underlying5 Tryz.underlying9 (fun j hj => ?_)
    have hadd : (⟨g, 0, none⟩ : Addr).add j = ⟨g, j, none⟩ := by unfold Addr.add; split <;> simp_all
    rw [hadd, cell_of_row _ _ j _ _ _ hg]
    have e := congrArg (·[j]?) ht
    simp only [List.getElem?_take, Nat.mul_one, if_pos hj, Lib.byteCells, List.getElem?_map, List.getElem?_eq_getElem hj, Option.map_some] at e
    rw [← Array.getElem?_toList, e]
end Go.Proofs
