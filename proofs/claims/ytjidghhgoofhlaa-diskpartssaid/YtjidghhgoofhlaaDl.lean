/-
  whole, fresh.
-/
import Derived.Test.YtjidghhgoofhlaaDj
import Derived.Lib.SlBytesConst
namespace Go.Proofs
open Go.RowKit Go.Dk
/-- A world in which a disk can be read. -/
structure Try.Rdb (w : World) (x : Nat) (s : DS) : Prop where
  ex : ∃ l t V, Try.Mem w x l t V s (Dk.lats s.n s.W)
theorem Try.Rdb.below {w w' : World} {x : Nat} {s : DS} (h : Try.Rdb w x s) (g : Below w.heap.size w w') : Try.Rdb w' x s := by
  obtain ⟨l, t, V, hm⟩ := h.ex
  exact ⟨l, t, V, hm.keep fun k e => g.block k (hm.foot_lt k e)⟩
theorem Try.Two.rdb {B : Nat} {w0 w : World} {a b : Nat} {sa sb : DS} (h : Try.Two B w0 w a b sa sb) : Try.Rdb w a sa := by
  obtain ⟨oa, ob, h1, _⟩ := h.ex
  obtain ⟨l, t, V, hm, _⟩ := h1.ex
  exact ⟨l, t, V, hm⟩
theorem Try.One.rdb {B : Nat} {w0 w : World} {a : Nat} {sa : DS} (h : Try.One B w0 w a sa) : Try.Rdb w a sa := by
  obtain ⟨oa, h1, _⟩ := h.ex
  obtain ⟨l, t, V, hm, _⟩ := h1.ex
  exact ⟨l, t, V, hm⟩
theorem Try.Rdb.len {w : World} {x : Nat} {s : DS} (h : Try.Rdb w x s) : s.view.length = 64 * s.n := by
  obtain ⟨l, t, V, hm⟩ := h.ex
  exact sink_length _ _ hm.lL hm.good
theorem Dk.take_blk {L : List UInt8} {n i : Nat} (_hL : L.length = 64 * n) (_hi : i < n) : L.take (64 * i) ++ blk L i = L.take (64 * (i + 1)) := by
  rw [blk, show 64 * (i + 1) = 64 * i + 64 by omega, List.take_add]
/-- Bytes as a text. -/
theorem Try.conv {W : World} {g n c : Nat} {m : List UInt8} {fr : Nat × Nat} (h : W.heap[g]? = some (.cells (Lib.byteCells m).toArray 5 fr)) (hm : m.length = n) :
    (convert 33 9 (.slice (some ⟨g, 0, none⟩) n c)).run Try.prog W = .ok (.string ⟨m.toArray⟩) W := by
  subst hm
  refine run_convert_bytes_back (P := Try.prog) W 33 9 5 ⟨g, 0, none⟩ c m Try.underlying33 Try.underlying5 Try.underlying9 (fun j hj => ?_)
  rw [Addr.add_mid, Nat.zero_add, cell_of_row _ _ _ _ _ _ h]
  simp [Lib.byteCells, hj]
theorem Dk.str_cat (a b : List UInt8) : (⟨a.toArray⟩ : ByteArray) ++ ⟨b.toArray⟩ = ⟨(a ++ b).toArray⟩ := by
  apply ByteArray.ext
  simp [ByteArray.data_append]
set_option maxRecDepth 5000 in
set_option maxHeartbeats 1000000 in
theorem Try.whole_any {w : World} {x : Nat} {s : DS} (h : Try.Rdb w x s) (hd : s.dead = false) (hn : s.n = 8) :
    Calls Try.prog 16 #[.pointer (some ⟨x, 0, none⟩)] w fun e w' => e = .returned (.tuple #[.string ⟨s.view.toArray⟩, .bool true]) ∧ Below w.heap.size w w' := by
  have hlen := h.len
  rw [hn] at hlen
  have HH : Hid (Try.Rdb w x s) := h
  have HN : Hid (s.n = 8) := hn
  have HD : Hid (s.dead = false) := hd
  clear h hn hd
  obtain ⟨L, hL⟩ : ∃ L, L = s.view := ⟨_, rfl⟩
  rw [← hL] at hlen ⊢
  have HL : Hid (L = s.view) := hL
  clear hL
  go_enter Try.func16, Try.ntmps16
  go_wp2
  go_loopw [4, 5] (fun v i wr => ∃ k : Nat, k ≤ 8 ∧ i = .int .i64 k ∧ v = .string ⟨(L.take (64 * k)).toArray⟩ ∧ Try.Rdb wr x s ∧ Below w.heap.size w wr) (fun _ i _ => 8 - (intOf i).toNat)
  case atStart => exact ⟨0, by omega, rfl, by simp, HH.out, Below.refl _ _⟩
  case round =>
    obtain ⟨k, hk, rfl, rfl, hr, hbel⟩ := hrel
    have hbl : Calls Try.prog 30 #[.pointer (some ⟨x, 0, none⟩)] wr fun e w' => e = .returned (.int .i64 8) ∧ w' = wr := by
      obtain ⟨l, t, V, hm⟩ := hr.ex
      have := Try.blocks_any hm
      rw [HN.out] at this
      exact this
    by_cases hk8 : k < 8
    · have q0 : (k : Int) < 8 := by omega
      have hrd : Calls Try.prog 13 #[.pointer (some ⟨x, 0, none⟩), .int .i64 k] wr fun e w' => e = .returned (.tuple #[.slice (some ⟨wr.heap.size, 0, none⟩) 64 64, .int .i64 0]) ∧ w'.heap[wr.heap.size]? = some (.cells (Lib.byteCells (blk L k)).toArray 5 (0, 0)) ∧ Below wr.heap.size wr w' := by
        obtain ⟨l, t, V, hm⟩ := hr.ex
        rw [HL.out]
        exact Try.read_ok hm rfl HD.out k (by rw [HN.out]; exact hk8)
      have hbk : (blk L k).length = 64 := blk_length (n := 8) hlen hk8
      have hR : Hid (Try.Rdb wr x s) := hr
      clear hr
      go_wp2_with (first
        | (go_at_call 30; refine hbl.mono ?_; clear hbl; rintro e w2 ⟨rfl, rfl⟩)
        | (go_at_call 13; refine hrd.mono ?_; clear hrd; rintro e w3 ⟨rfl, hN3, hbel3⟩; have hcv := Try.conv (n := 64) (c := 64) hN3 hbk)
        | fail)
      go_roundw
      case rel => exact ⟨k + 1, by omega, by go_num, by rw [Dk.str_cat, Dk.take_blk (n := 8) hlen hk8], hR.out.below hbel3, hbel.trans (hbel3.mono hbel.size)⟩
      case measure => simp [intOf]; omega
    · have q0 : ¬ (k : Int) < 8 := by omega
      have hk' : k = 8 := by omega
      subst hk'
      have hle : L.take 512 = L := List.take_of_length_le (by omega)
      have hle2 : (L.take 512).length = 512 := by rw [hle, hlen]
      go_wp2_with (first
        | (go_at_call 30; refine hbl.mono ?_; clear hbl; rintro e w2 ⟨rfl, rfl⟩)
        | fail)
      go_ret2
      exact ⟨rfl, hbel⟩
/-- The disk that 'fresh' makes. -/
def Dk.ds8 : DS := ⟨8, List.replicate 512 0, [], false, false, 0, 0, 0, 2, 1, 0, 8⟩
theorem Dk.ds8_eq : (((Dk.new 8).put 7 [107]).put 7 []).sync = Dk.ds8 := by kernel_rfl
theorem Dk.blk7 : blk ((Dk.new 8).put 7 [107]).view 7 = 107 :: List.replicate 63 0 := by kernel_rfl
theorem Try.new_one (w : World) : Calls Try.prog 24 #[.int .i64 8] w fun e w' => ∃ x, e = .returned (.tuple #[.pointer (some ⟨x, 0, none⟩), .int .i64 0]) ∧ Try.One w.heap.size w w' x (Dk.new 8) :=
  (Try.new_ok w 8 (by omega) (by omega)).mono fun e w' ⟨x, l, t, h1, h2, h3, h4, h5, h6⟩ => ⟨x, h1, ⟨Dk.foot x l t (.slice none 0 0), ⟨⟨l, t, _, h2, fun k e => e⟩, h2.foot_lt⟩, fun k e => by
    rcases e with e | e | e | e
    · omega
    · omega
    · omega
    · cases e⟩, h3, h3.size⟩
theorem Try.One.write {B : Nat} {w0 w : World} {a : Nat} {sa : DS} (h : Try.One B w0 w a sa) (hd : sa.dead = false) (hw1 : sa.W.length < 1000000) (hbl : sa.fset = false ∨ 0 < sa.fl) (hwr : sa.wrote < 1000000000) (hfl : sa.fl < 1000000000) (hfl0 : 0 ≤ sa.fl) (i : Nat) (hi : i < sa.n) (b : List UInt8) (hb : b.length ≤ 64) (v : Value) (hv : Dk.Src w v b) :
    Calls Try.prog 9 #[.pointer (some ⟨a, 0, none⟩), .int .i64 i, v] w fun e w' => e = .returned (.int .i64 0) ∧ Try.One B w0 w' a (sa.put i b) :=
  h.step (R := fun e => e = .returned (.int .i64 0)) fun _l _t _V hm => (Try.write_ok hm rfl hd hw1 hbl hwr hfl hfl0 i hi b hb v hv).mono fun _ _ ⟨r1, V', r2, r3, r4⟩ => ⟨r1, V', r2, r3, r4⟩
theorem Try.One.sync {B : Nat} {w0 w : World} {a : Nat} {sa : DS} (h : Try.One B w0 w a sa) (hd : sa.dead = false) (hbl : sa.fset = false ∨ 0 < sa.fl) (hy : sa.synced < 1000000000) :
    Calls Try.prog 8 #[.pointer (some ⟨a, 0, none⟩)] w fun e w' => e = .returned (.int .i64 0) ∧ Try.One B w0 w' a sa.sync :=
  h.step (R := fun e => e = .returned (.int .i64 0)) fun _l _t _V hm => (Try.sync_ok hm rfl hd hbl hy).mono fun _ _ ⟨r1, r2, r3⟩ => ⟨r1, Try.left_nil rfl r2 r3⟩
theorem Try.One.read {B : Nat} {w0 w : World} {a : Nat} {sa : DS} (h : Try.One B w0 w a sa) (hd : sa.dead = false) (i : Nat) (hi : i < sa.n) :
    Calls Try.prog 13 #[.pointer (some ⟨a, 0, none⟩), .int .i64 i] w fun e w' => e = .returned (.tuple #[.slice (some ⟨w.heap.size, 0, none⟩) 64 64, .int .i64 0]) ∧ w'.heap[w.heap.size]? = some (.cells (Lib.byteCells (blk sa.view i)).toArray 5 (0, 0)) ∧ Try.One B w0 w' a sa :=
  h.reads fun _l _t _V hm => (Try.read_ok hm rfl hd i hi).mono fun _ _ ⟨r1, r2, r3⟩ => ⟨r1, r2, h.below r3⟩
set_option maxRecDepth 5000 in
set_option maxHeartbeats 1000000 in
theorem Try.fresh_any (w : World) : Calls Try.prog 7 #[] w fun e w' => ∃ x, e = .returned (.pointer (some ⟨x, 0, none⟩)) ∧ Try.One w.heap.size w w' x Dk.ds8 := by
  have hne := Try.new_one w
  have hcv := fun (w : World) (C : Array Value) (n c : Nat) => Lib.run_convert_bytes_const (P := Try.prog) w 33 5 C n c Try.underlying33 Try.underlying5
  go_enter Try.func7, Try.ntmps7
  go_wp2_with (first
    | (go_at_call 24; refine hne.mono ?_; clear hne; rintro e w1 ⟨x, rfl, hO1⟩)
    | (go_at_call 9; refine ((hO1.below ((Below.refl w1.heap.size w1).alloc (Nat.le_refl _) (.cells #[.int .u8 107] 5 (1, 2)))).write rfl (by decide) (.inl rfl) (by decide) (by decide) (by decide) 7 (by decide) [107] (by decide) (.slice (some ⟨w1.heap.size, 0, none⟩) 1 1) ⟨_, 1, rfl, .inr ⟨w1.heap.size, 0, rfl, by simp, fun j u hj => by rw [Nat.zero_add, cell_of_row _ _ _ _ _ _ (heap_alloc_new w1 _)]; simpa [Lib.byteCells] using hj⟩⟩).mono ?_; clear hO1; rintro e w2 ⟨rfl, hO2⟩)
    | (go_at_call 13; refine (hO2.read rfl 7 (by decide)).mono ?_; clear hO2; rintro e w3 ⟨rfl, hN3, hO3⟩; rw [Dk.blk7] at hN3; have e0 : w3.cell? ⟨w2.heap.size, 0, none⟩ = some (.int .u8 107) := by { rw [cell_of_row _ _ _ _ _ _ hN3]; rfl }; have e1 : w3.cell? ⟨w2.heap.size, 1, none⟩ = some (.int .u8 0) := by { rw [cell_of_row _ _ _ _ _ _ hN3]; rfl }; clear hN3)
    | (go_at_call 9; refine (hO3.write rfl (by decide) (.inl rfl) (by decide) (by decide) (by decide) 7 (by decide) [] (by decide) (.slice none 0 0) ⟨none, 0, rfl, .inl rfl⟩).mono ?_; clear hO3; rintro e w4 ⟨rfl, hO4⟩)
    | (go_at_call 8; refine (hO4.sync rfl (.inl rfl) (by decide)).mono ?_; clear hO4; rintro e w5 ⟨rfl, hO5⟩)
    | fail)
  go_ret
  rw [Dk.ds8_eq] at hO5
  exact ⟨_, rfl, hO5⟩
end Go.Proofs
