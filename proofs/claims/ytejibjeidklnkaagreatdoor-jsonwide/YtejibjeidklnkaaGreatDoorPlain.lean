/-
  THE PLAIN FUNCTIONS of the sign layer, as the Go text reckons them: nothing of the program.
-/
import Derived.WalkKit
import Derived.Lib.OthersKept
import Derived.Lib.RuneBytes
import Derived.Lib.DecodeN
import Derived.Lib.TrimU
import Derived.Lib.Strings
import Derived.Shelf.Unicode.DecodeLast
import Derived.Lib.RuneCountTail
namespace Go.Sg
/-- S3. -/
def wordB (r : Int) : Bool :=
  if r < 192 then (decide (48 ≤ r ∧ r ≤ 57) || decide (65 ≤ r ∧ r ≤ 90) || decide (97 ≤ r ∧ r ≤ 122) || decide (r = 95))
  else if r = 215 ∨ r = 247 ∨ r = 65533 then false
  else if (8192 ≤ r ∧ r ≤ 8303) ∨ (12288 ≤ r ∧ r ≤ 12351) ∨ (55296 ≤ r ∧ r ≤ 57343) ∨ (65280 ≤ r ∧ r ≤ 65295) then false
  else decide (r ≤ 1114111)
/-- S2's table: first, last, step, plus. -/
def rows : List (Int × Int × Int × Int) := [(65, 90, 1, 32), (192, 214, 1, 32), (216, 222, 1, 32), (256, 302, 2, 1), (306, 310, 2, 1), (313, 327, 2, 1), (330, 374, 2, 1), (376, 376, 1, -121), (377, 381, 2, 1), (902, 902, 1, 38), (904, 906, 1, 37), (908, 908, 1, 64), (910, 911, 1, 63), (913, 929, 1, 32), (931, 939, 1, 32), (962, 962, 1, 1), (1024, 1039, 1, 80), (1040, 1071, 1, 32), (65313, 65338, 1, 32)]
def rowF (k : Nat) : Int := (rows.getD k (0, 0, 1, 0)).1
def rowL (k : Nat) : Int := (rows.getD k (0, 0, 1, 0)).2.1
def rowS (k : Nat) : Int := (rows.getD k (0, 0, 1, 0)).2.2.1
def rowP (k : Nat) : Int := (rows.getD k (0, 0, 1, 0)).2.2.2
def letterCells : Array Value := #[.int .i32 65, .int .i32 90, .int .i32 1, .int .i32 32, .int .i32 192, .int .i32 214, .int .i32 1, .int .i32 32, .int .i32 216, .int .i32 222, .int .i32 1, .int .i32 32, .int .i32 256, .int .i32 302, .int .i32 2, .int .i32 1, .int .i32 306, .int .i32 310, .int .i32 2, .int .i32 1, .int .i32 313, .int .i32 327, .int .i32 2, .int .i32 1, .int .i32 330, .int .i32 374, .int .i32 2, .int .i32 1, .int .i32 376, .int .i32 376, .int .i32 1, .int .i32 (-121), .int .i32 377, .int .i32 381, .int .i32 2, .int .i32 1, .int .i32 902, .int .i32 902, .int .i32 1, .int .i32 38, .int .i32 904, .int .i32 906, .int .i32 1, .int .i32 37, .int .i32 908, .int .i32 908, .int .i32 1, .int .i32 64, .int .i32 910, .int .i32 911, .int .i32 1, .int .i32 63, .int .i32 913, .int .i32 929, .int .i32 1, .int .i32 32, .int .i32 931, .int .i32 939, .int .i32 1, .int .i32 32, .int .i32 962, .int .i32 962, .int .i32 1, .int .i32 1, .int .i32 1024, .int .i32 1039, .int .i32 1, .int .i32 80, .int .i32 1040, .int .i32 1071, .int .i32 1, .int .i32 32, .int .i32 65313, .int .i32 65338, .int .i32 1, .int .i32 32]
theorem row_facts : ∀ k, k < 19 → 65 ≤ rowF k ∧ rowF k ≤ rowL k ∧ rowL k ≤ 65338 ∧ 1 ≤ rowS k ∧ rowS k ≤ 2 ∧ -121 ≤ rowP k ∧ rowP k ≤ 80 := by decide
/-- The search from row k on, 'n' rows of it. -/
def smallGo : Nat → Nat → Int → Int
  | 0, _, r => r
  | n + 1, k, r => if r < rowF k then r else if r ≤ rowL k ∧ (r - rowF k) % rowS k = 0 then r + rowP k else smallGo n (k + 1) r
def small (r : Int) : Int := smallGo 19 0 r
theorem smallGo_at (k : Nat) (hk : k < 19) (r : Int) : smallGo (19 - k) k r = if r < rowF k then r else if r ≤ rowL k ∧ (r - rowF k) % rowS k = 0 then r + rowP k else smallGo (19 - (k + 1)) (k + 1) r := by
  obtain ⟨n, hn⟩ : ∃ n, 19 - k = n + 1 := ⟨19 - k - 1, by omega⟩
  have hn' : 19 - (k + 1) = n := by omega
  rw [hn, hn', smallGo]
theorem ret_int {k : IntKind} {a b : Int} (h : a = b) : Ending.returned (.int k a) = .returned (.int k b) := by rw [h]
theorem ret_bool {a b : Bool} (h : a = b) : Ending.returned (.bool a) = .returned (.bool b) := by rw [h]
theorem ret_str {a b : ByteArray} (h : a = b) : Ending.returned (.string a) = .returned (.string b) := by rw [h]
/-- A wrong byte at a place. -/
def wrongAt (s : ByteArray) (pos : Nat) : Bool := decide (Utf8.decode s pos = (65533, 1))
def mark : ByteArray := ⟨#[239, 191, 189]⟩
def wrongB (s : ByteArray) (pos : Nat) (r : Int) : Bool := r == 65533 && !(Lib.hasPrefix (s.extract pos s.size).data.toList mark.data.toList)
def validFrom (s : ByteArray) : Nat → Nat → Bool
  | 0, _ => true
  | f + 1, pos => if pos < s.size then (if wrongAt s pos then false else validFrom s f (pos + (Utf8.decode s pos).2)) else true
def valid (s : ByteArray) : Bool := validFrom s s.size 0
def foldFrom (s : ByteArray) : Nat → Nat → List UInt8
  | 0, _ => []
  | f + 1, pos => if pos < s.size then (if wrongAt s pos then [s.get! pos] else Lib.encodeRune (small (Utf8.decode s pos).1)) ++ foldFrom s f (pos + (Utf8.decode s pos).2) else []
def fold (s : ByteArray) : ByteArray := ⟨(foldFrom s s.size 0).toArray⟩
def withinGo (s : ByteArray) (a : Nat) : Nat → Nat → Bool
  | 0, _ => false
  | n + 1, k => if a < k + (Utf8.decode s k).2 then true else withinGo s a n (k + 1)
/-- Is a place within a sign? -/
def withinB (s : ByteArray) (a : Nat) : Bool := withinGo s a (a - (a - 3)) (a - 3)
theorem withinGo_at (s : ByteArray) (a k : Nat) (h : k < a) : withinGo s a (a - k) k = if a < k + (Utf8.decode s k).2 then true else withinGo s a (a - (k + 1)) (k + 1) := by
  obtain ⟨n, hn⟩ : ∃ n, a - k = n + 1 := ⟨a - k - 1, by omega⟩
  have hn' : a - (k + 1) = n := by omega
  rw [hn, hn', withinGo]
/-- S4, as the Go text reckons it. -/
def edgeN (s : ByteArray) (a : Nat) : Bool :=
  if withinB s a then false else if a = 0 ∨ a = s.size then true
  else !wordB (Lib.decodeLastL (s.extract 0 a).data.toList).1 || !wordB (Utf8.decode s a).1
def edgeB (s : ByteArray) (a : Int) : Bool := if a < 0 ∨ (s.size : Int) < a then false else edgeN s a.toNat
theorem decodeGo_tail (s : ByteArray) (k : Nat) (h : k < s.size) : Lib.decodeGo (s.extract k s.size) = Utf8.decode s k := by
  unfold Lib.decodeGo
  rw [if_neg (by rw [ByteArray.size_extract]; omega), Lib.tail_decode, Nat.add_zero]
end Go.Sg
