/-
  THE SUM OF 32 BYTES, plain. Nothing of the program.
-/
import Derived.WalkKit
namespace Go.Dg
/-- A word turned. -/
def rot (x n : Nat) : Nat := x / 2 ^ n ||| x * 2 ^ (32 - n) % 4294967296
def starts : List Nat := [0x6a09e667, 0xbb67ae85, 0x3c6ef372, 0xa54ff53a, 0x510e527f, 0x9b05688c, 0x1f83d9ab, 0x5be0cd19]
def rounds : List Nat := [
  0x428a2f98, 0x71374491, 0xb5c0fbcf, 0xe9b5dba5, 0x3956c25b, 0x59f111f1, 0x923f82a4, 0xab1c5ed5, 0xd807aa98, 0x12835b01, 0x243185be, 0x550c7dc3, 0x72be5d74, 0x80deb1fe, 0x9bdc06a7, 0xc19bf174,
  0xe49b69c1, 0xefbe4786, 0x0fc19dc6, 0x240ca1cc, 0x2de92c6f, 0x4a7484aa, 0x5cb0a9dc, 0x76f988da, 0x983e5152, 0xa831c66d, 0xb00327c8, 0xbf597fc7, 0xc6e00bf3, 0xd5a79147, 0x06ca6351, 0x14292967,
  0x27b70a85, 0x2e1b2138, 0x4d2c6dfc, 0x53380d13, 0x650a7354, 0x766a0abb, 0x81c2c92e, 0x92722c85, 0xa2bfe8a1, 0xa81a664b, 0xc24b8b70, 0xc76c51a3, 0xd192e819, 0xd6990624, 0xf40e3585, 0x106aa070,
  0x19a4c116, 0x1e376c08, 0x2748774c, 0x34b0bcb5, 0x391c0cb3, 0x4ed8aa4a, 0x5b9cca4f, 0x682e6ff3, 0x748f82ee, 0x78a5636f, 0x84c87814, 0x8cc70208, 0x90befffa, 0xa4506ceb, 0xbef9a3f7, 0xc67178f2]
/-- Four bytes as a word. -/
def wrd (m : List UInt8) (t : Nat) : Nat := (m.getD (4 * t) 0).toNat * 16777216 + (m.getD (4 * t + 1) 0).toNat * 65536 + (m.getD (4 * t + 2) 0).toNat * 256 + (m.getD (4 * t + 3) 0).toNat
def sml (x : Nat) : Nat := rot x 7 ^^^ rot x 18 ^^^ x / 8
def smr (y : Nat) : Nat := rot y 17 ^^^ rot y 19 ^^^ y / 1024
/-- The word behind t of them. -/
def nxt (w : List Nat) : Nat := (w.getD (w.length - 16) 0 + w.getD (w.length - 7) 0 + sml (w.getD (w.length - 15) 0) + smr (w.getD (w.length - 2) 0)) % 4294967296
def sched : Nat → List Nat → List Nat
  | 0, w => w
  | n + 1, w => sched n (w ++ [nxt w])
def words (m : List UInt8) : List Nat := sched 48 ((List.range 16).map (wrd m))
/-- One round. -/
structure S8 where
  a : Nat
  b : Nat
  c : Nat
  d : Nat
  e : Nat
  f : Nat
  g : Nat
  h : Nat
def S8.l (s : S8) : List Nat := [s.a, s.b, s.c, s.d, s.e, s.f, s.g, s.h]
def one (s : S8) (k w : Nat) : Nat := (s.h + (rot s.e 6 ^^^ rot s.e 11 ^^^ rot s.e 25) + (s.e &&& s.f ||| (4294967295 - s.e) &&& s.g) + k + w) % 4294967296
def two (s : S8) : Nat := ((rot s.a 2 ^^^ rot s.a 13 ^^^ rot s.a 22) + (s.a &&& s.b ||| s.a &&& s.c ||| s.b &&& s.c)) % 4294967296
def rnd (s : S8) (k w : Nat) : S8 := ⟨(one s k w + two s) % 4294967296, s.a, s.b, s.c, (s.d + one s k w) % 4294967296, s.e, s.f, s.g⟩
def rnds : List (Nat × Nat) → S8 → S8
  | [], s => s
  | (k, w) :: r, s => rnds r (rnd s k w)
def addS (s v : S8) : S8 := ⟨(s.a + v.a) % 4294967296, (s.b + v.b) % 4294967296, (s.c + v.c) % 4294967296, (s.d + v.d) % 4294967296, (s.e + v.e) % 4294967296, (s.f + v.f) % 4294967296, (s.g + v.g) % 4294967296, (s.h + v.h) % 4294967296⟩
def blk (s : S8) (m : List UInt8) : S8 := addS s (rnds (rounds.zip (words m)) s)
def start : S8 := ⟨0x6a09e667, 0xbb67ae85, 0x3c6ef372, 0xa54ff53a, 0x510e527f, 0x9b05688c, 0x1f83d9ab, 0x5be0cd19⟩
def be8 (n : Nat) : List UInt8 := [56, 48, 40, 32, 24, 16, 8, 0].map fun k => UInt8.ofNat (n / 2 ^ k)
/-- What is filled up. -/
def fill (b : List UInt8) : List UInt8 := b ++ [128] ++ List.replicate ((119 - b.length % 64) % 64) 0 ++ be8 (b.length * 8)
/-- Something done with each 64 bytes. -/
def each64 {α : Type} (f : α → List UInt8 → α) : Nat → List UInt8 → α → α
  | 0, _, s => s
  | n + 1, m, s => each64 f n (m.drop 64) (f s (m.take 64))
theorem each64_succ {α : Type} (f : α → List UInt8 → α) (n : Nat) (m : List UInt8) (s : α) : each64 f (n + 1) m s = each64 f n (m.drop 64) (f s (m.take 64)) := rfl
def blks (n : Nat) (m : List UInt8) (s : S8) : S8 := each64 blk n m s
def wbytes (n : Nat) : List UInt8 := [UInt8.ofNat (n / 16777216), UInt8.ofNat (n / 65536), UInt8.ofNat (n / 256), UInt8.ofNat n]
def out (s : S8) : List UInt8 := s.l.flatMap wbytes
def sum (b : List UInt8) : List UInt8 := out (blks ((fill b).length / 64) (fill b) start)
def hexD (n : Nat) : UInt8 := if n < 10 then UInt8.ofNat (48 + n) else UInt8.ofNat (87 + n)
def hex (b : List UInt8) : List UInt8 := b.flatMap fun c => [hexD (c.toNat / 16), hexD (c.toNat % 16)]
theorem sum_abc : hex (sum [97, 98, 99]) = "ba7816bf8f01cfea414140de5dae2223b00361a396177a9cb410ff61f20015ad".toUTF8.toList := by kernel_rfl
theorem sum_none : hex (sum []) = "e3b0c44298fc1c149afbf4c8996fb92427ae41e4649b934ca495991b7852b855".toUTF8.toList := by kernel_rfl
def withB (k : List UInt8) (n : UInt8) : List UInt8 := k.map (· ^^^ n)
def key64 (key : List UInt8) : List UInt8 := let k := if 64 < key.length then sum key else key; k ++ List.replicate (64 - k.length) 0
def mac (key b : List UInt8) : List UInt8 := sum (withB (key64 key) 92 ++ sum (withB (key64 key) 54 ++ b))
theorem mac_jefe : hex ((mac "Jefe".toUTF8.toList "what do ya want for nothing?".toUTF8.toList).take 4) = "5bdcc146".toUTF8.toList := by kernel_rfl
theorem rot_lt {x n : Nat} (h : x < 4294967296) : rot x n < 4294967296 := by
  unfold rot
  exact Nat.or_lt_two_pow (n := 32) (Nat.lt_of_le_of_lt (Nat.div_le_self _ _) h) (Nat.mod_lt _ (by decide))
theorem sml_lt {x : Nat} (h : x < 4294967296) : sml x < 4294967296 := Nat.xor_lt_two_pow (n := 32) (Nat.xor_lt_two_pow (n := 32) (rot_lt h) (rot_lt h)) (by omega)
theorem smr_lt {x : Nat} (h : x < 4294967296) : smr x < 4294967296 := Nat.xor_lt_two_pow (n := 32) (Nat.xor_lt_two_pow (n := 32) (rot_lt h) (rot_lt h)) (by omega)
end Go.Dg
