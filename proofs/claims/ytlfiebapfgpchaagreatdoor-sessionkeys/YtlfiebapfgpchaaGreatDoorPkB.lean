/-
  Laid together by pack.py of Saj Sak.
-/
import Derived.Test.YtlfiebapfgpchaaGreatDoorSqW3
import Derived.Test.YtlfiebapfgpchaaGreatDoorPkU
namespace Go.Proofs
open Go.RowKit Go.Wi
set_option maxHeartbeats 1000000 in
theorem Tryz.refNew_any (w : World) :
    Calls Tryz.prog 34 #[] w fun e w' => ∃ x, e = .returned (.pointer (some ⟨x, 0, none⟩)) ∧ Tryz.Wt 112 w' (fun k => w.heap.size ≤ k ∧ k < w'.heap.size) x [] ∧ Below w.heap.size w w' := by
  go_enter Tryz.func34, Tryz.ntmps34
  go_wp2
  go_ret
  refine ⟨w.heap.size, rfl, ⟨⟨_, heap_alloc_new w _, World.ownsRow_nil _ _ _ _, by simp [Value.ownBlock], fun k e => by cases e⟩, ⟨Nat.le_refl _, by simp⟩, fun k e => e.2⟩, (Below.refl _ w).alloc (Nat.le_refl _) _⟩
set_option maxHeartbeats 1000000 in
theorem Tryz.refCount_any {w : World} {own : Nat → Prop} {x : Nat} {l : List UInt8} (h : Tryz.Wt 112 w own x l) (n : Nat) (hn : n < 18446744073709551616) (hlen : l.length ≤ 140737488355300) :
    Calls Tryz.prog 60 #[.pointer (some ⟨x, 0, none⟩), .int .u64 n] w fun e w' => (∃ v, e = .returned v) ∧ Tryz.WChg 112 own w w' x (l ++ cnt n) := by
  go_enter Tryz.func60, Tryz.ntmps60
  go_wp2
  go_loopw [1] (fun i wr => ∃ (m : Nat) (l' : List UInt8), i = .int .u64 m ∧ m ≤ n ∧ l'.length + (cnt m).length ≤ l.length + 10 ∧ l' ++ cnt m = l ++ cnt n ∧ Tryz.WChg 112 own w wr x l') (fun i _ => (intOf i).toNat)
  case atStart => exact ⟨n, l, rfl, Nat.le_refl _, by have := cnt_len10 hn; omega, rfl, Tryz.WChg.refl h⟩
  case round =>
    obtain ⟨m, l', rfl, hm, hl', he, hC⟩ := hrel
    obtain ⟨own1, hW, ho⟩ := hC.ex
    obtain ⟨V, hx, hrow, hV, hVo⟩ := hW.ex
    have hc := cell_of_row wr x 0 _ _ _ hx
    have hf := frozen_of_row wr x 0 _ _ hx
    have hc1 := cnt_len10 (n := m) (by omega)
    have Hhx : Hid (wr.heap[x]? = some (.cells #[V] 112 (0, 0))) := hx
    have Hrow : Hid (wr.ownsRow 0 5 1 V l'.length (Lib.byteCells l')) := hrow
    have Hhe : Hid (l' ++ cnt m = l ++ cnt n) := he
    have Hlen : Hid (l'.length + 1 ≤ 140737488355328) := (by show l'.length + 1 ≤ _; omega)
    have hwq : IntKind.u64.wrap ((m : Int) / 128) = ((m / 128 : Nat) : Int) := by rw [IntKind.wrap_u64]; omega
    clear hx hrow he hn hlen
    by_cases hm1 : 128 ≤ m
    · have q0 : (128 : Int) ≤ (m : Int) := by omega
      have hcg := cnt_ge hm1
      have Hcg : Hid (cnt m = UInt8.ofNat (128 + m % 128) :: cnt (m / 128)) := hcg
      rw [hcg, List.length_cons] at hl'
      clear hcg hc1
      go_wp2_with (first | (at_builtin; refine Tryz.app1 rfl _ _ rfl hW Hhx.out Hrow.out hV hVo rfl rfl (UInt8.ofNat (128 + m % 128)) _ (by rw [UInt8.toNat_ofNat']; omega) Hlen.out ?_; intro g1 n1 cap1 w1 hc2 hf2 hC2) | fail)
      go_roundw
      case rel => 
        refine ⟨m / 128, l' ++ [UInt8.ofNat (128 + m % 128)], by first | rfl | rw [hwq] | simp [hwq], by omega, by simp; omega, ?_, Tryz.WChg.trans hC.wo ho hC2⟩
        rw [← Hhe.out, Hcg.out, List.append_assoc]; rfl
      case measure => simp [intOf]; omega
    · have q0 : ¬ (128 : Int) ≤ (m : Int) := by omega
      have hcl := cnt_lt (n := m) (by omega)
      have Hcl : Hid (cnt m = [UInt8.ofNat m]) := hcl
      have hmm : ((m : Int) % 256) = (((UInt8.ofNat m).toNat : Nat) : Int) := by rw [UInt8.toNat_ofNat']; omega
      rw [hcl] at hl'
      clear hcl hc1
      go_wp2_with (first | (at_builtin; refine Tryz.app1 rfl _ _ rfl hW Hhx.out Hrow.out hV hVo rfl rfl (UInt8.ofNat m) _ (by rw [UInt8.toNat_ofNat']; omega) Hlen.out ?_; intro g1 n1 cap1 w1 hc2 hf2 hC2) | fail)
      go_end0
      refine ⟨⟨_, rfl⟩, ?_⟩
      rw [← Hhe.out, Hcl.out]
      exact Tryz.WChg.trans hC.wo ho hC2
set_option maxHeartbeats 1000000 in
theorem Tryz.refText_any {w : World} {own : Nat → Prop} {x : Nat} {l : List UInt8} (h : Tryz.Wt 112 w own x l) (t : ByteArray) (hlen : l.length + t.size ≤ 140737488355290) :
    Calls Tryz.prog 35 #[.pointer (some ⟨x, 0, none⟩), .string t] w fun e w' => (∃ v, e = .returned v) ∧ Tryz.WChg 112 own w w' x (l ++ (cnt t.size ++ t.data.toList)) := by
  have h1 := Tryz.refCount_any h t.size (by omega) (by omega)
  have hcl := cnt_len10 (n := t.size) (by omega)
  have Hlen : Hid ((l ++ cnt t.size).length + t.size ≤ 140737488355328) := (by show (l ++ cnt t.size).length + t.size ≤ _; rw [List.length_append]; omega)
  have hts : IntKind.u64.wrap (t.size : Int) = t.size := by rw [IntKind.wrap_u64]; omega
  clear hcl hlen
  go_enter Tryz.func35, Tryz.ntmps35
  go_wp2_with (first
    | (go_at_call 60; refine h1.mono ?_; clear h1; rintro e w2 ⟨⟨v, rfl⟩, h2⟩; obtain ⟨own1, hW, ho⟩ := h2.ex; obtain ⟨V, hx, hrow, hV, hVo⟩ := hW.ex; have hc := cell_of_row w2 x 0 _ _ _ hx; have hf := frozen_of_row w2 x 0 _ _ hx; have Hhx : Hid (w2.heap[x]? = some (.cells #[V] 112 (0, 0))) := hx; have Hrow : Hid (w2.ownsRow 0 5 1 V (l ++ cnt t.size).length (Lib.byteCells (l ++ cnt t.size))) := hrow; clear hx hrow)
    | (at_builtin; refine Tryz.appS rfl _ _ rfl hW Hhx.out Hrow.out hV hVo rfl t rfl Hlen.out ?_; intro ad1 n1 cap1 w3 hc3 hf3 hC3)
    | fail)
  go_end0
  refine ⟨⟨_, rfl⟩, ?_⟩
  rw [← List.append_assoc]
  exact Tryz.WChg.trans h2.wo ho hC3
set_option maxHeartbeats 1000000 in
theorem Tryz.refInt_any {w : World} {own : Nat → Prop} {x : Nat} {l : List UInt8} (h : Tryz.Wt 112 w own x l) (n : Int) (h0 : 0 ≤ n) (hn2 : n ≤ 9223372036854775807) (hlen : l.length ≤ 140737488355300) :
    Calls Tryz.prog 36 #[.pointer (some ⟨x, 0, none⟩), .int .i64 n] w fun e w' => (∃ v, e = .returned v) ∧ Tryz.WChg 112 own w w' x (l ++ cnt (zig n)) := by
  have h1 : ∀ z : Int, z = ((zig n : Nat) : Int) → Calls Tryz.prog 60 #[.pointer (some ⟨x, 0, none⟩), .int .u64 z] w fun e w' => (∃ v, e = .returned v) ∧ Tryz.WChg 112 own w w' x (l ++ cnt (zig n)) := fun z hz => by
    subst hz
    exact Tryz.refCount_any h (zig n) (zig_lt (by omega) hn2) hlen
  have Hz : Hid (zig n = if 0 ≤ n then 2 * n.toNat else 2 * (-(n + 1)).toNat + 1) := rfl
  have Hn : Hid (-9223372036854775808 ≤ n ∧ n ≤ 9223372036854775807) := ⟨by omega, hn2⟩
  clear hlen hn2 h
  go_enter Tryz.func36, Tryz.ntmps36
  go_wp2_with (first | (go_at_call 60; refine (h1 _ (by have hn := Hn.out; rw [Hz.out, if_pos h0]; simp only [IntKind.wrap_u64]; omega)).mono ?_; clear h1; rintro e w2 ⟨⟨v, rfl⟩, h2⟩) | fail)
  (try simp only [Exit.inBlock, Exit.then])
  refine bodyPost_ret (results_none rfl _ _ _) rfl ?_
  exact ⟨⟨_, rfl⟩, h2⟩
set_option maxHeartbeats 1000000 in
theorem Tryz.refBytes_any {w : World} {own : Nat → Prop} {x : Nat} {l : List UInt8} (h : Tryz.Wt 112 w own x l) (hlen : l.length ≤ 140737488355328) :
    Calls Tryz.prog 38 #[.pointer (some ⟨x, 0, none⟩)] w fun e w' => ∃ ad cap, e = .returned (.slice ad l.length cap) ∧ w'.ownsRow w.heap.size 5 1 (.slice ad l.length cap) l.length (Lib.byteCells l) ∧ Below w.heap.size w w' := by
  obtain ⟨V, hx, hrow, hV, hVo⟩ := h.ex
  have hc := cell_of_row w x 0 _ _ _ hx
  have hbs := Bs.ofRow hrow
  have Hlen : Hid (l.length ≤ 140737488355328) := hlen
  clear hlen hx hrow
  go_enter Tryz.func38, Tryz.ntmps38
  go_wp2_with (first | (at_builtin; refine Tryz.appCopy rfl _ _ rfl hbs rfl rfl Hlen.out ?_; intro ad1 cap1 w1 hown hb) | fail)
  go_ret
  exact ⟨_, _, rfl, hown, hb⟩
structure Tryz.WR (B : Nat) (w0 w : World) (x : Nat) (l : List UInt8) : Prop where
  ex : ∃ own, Tryz.Wt 112 w own x l ∧ ∀ k, own k → B ≤ k
  bel : Below B w0 w
theorem Tryz.WR.le {B : Nat} {w0 w : World} {x : Nat} {l : List UInt8} (h : Tryz.WR B w0 w x l) : B ≤ w.heap.size := by
  obtain ⟨own, h1, h2⟩ := h.ex
  exact Nat.le_of_lt (Nat.lt_of_le_of_lt (h2 x h1.ox) (h1.lt x h1.ox))
theorem Tryz.WR.chg {B : Nat} {w0 w w' : World} {x : Nat} {l l' : List UInt8} {own : Nat → Prop} (h : Tryz.WR B w0 w x l) (ho : ∀ k, own k → B ≤ k) (hc : Tryz.WChg 112 own w w' x l') : Tryz.WR B w0 w' x l' := by
  obtain ⟨own', h1, h2⟩ := hc.ex
  have hle := h.le
  refine ⟨⟨own', h1, fun k e => ?_⟩, Wo.toBelow h.bel hc.wo ho hle⟩
  rcases h2 k e with e1 | e1
  · exact ho k e1
  · omega
theorem Tryz.WR.below {B : Nat} {w0 w w' : World} {x : Nat} {l : List UInt8} (h : Tryz.WR B w0 w x l) (g : Below w.heap.size w w') : Tryz.WR B w0 w' x l := by
  obtain ⟨own, h1, h2⟩ := h.ex
  exact ⟨⟨own, h1.below g, h2⟩, h.bel.trans (g.mono h.le)⟩
theorem Tryz.WR.new (w : World) : Calls Tryz.prog 34 #[] w fun e w' => ∃ x, e = .returned (.pointer (some ⟨x, 0, none⟩)) ∧ Tryz.WR w.heap.size w w' x [] :=
  (Tryz.refNew_any w).mono fun _ _ ⟨x, h1, h2, h3⟩ => ⟨x, h1, ⟨⟨_, h2, fun _ e => e.1⟩, h3⟩⟩
theorem Tryz.WR.int {B : Nat} {w0 w : World} {x : Nat} {l : List UInt8} (h : Tryz.WR B w0 w x l) (n : Int) (hn1 : 0 ≤ n) (hn2 : n ≤ 9223372036854775807) (hlen : l.length ≤ 140737488355300) :
    Calls Tryz.prog 36 #[.pointer (some ⟨x, 0, none⟩), .int .i64 n] w fun e w' => (∃ v, e = .returned v) ∧ Tryz.WR B w0 w' x (l ++ cnt (zig n)) := by
  obtain ⟨own, h1, h2⟩ := h.ex
  exact (Tryz.refInt_any h1 n hn1 hn2 hlen).mono fun _ _ ⟨e1, e2⟩ => ⟨e1, h.chg h2 e2⟩
theorem Tryz.WR.text {B : Nat} {w0 w : World} {x : Nat} {l : List UInt8} (h : Tryz.WR B w0 w x l) (t : ByteArray) (hlen : l.length + t.size ≤ 140737488355290) :
    Calls Tryz.prog 35 #[.pointer (some ⟨x, 0, none⟩), .string t] w fun e w' => (∃ v, e = .returned v) ∧ Tryz.WR B w0 w' x (l ++ (cnt t.size ++ t.data.toList)) := by
  obtain ⟨own, h1, h2⟩ := h.ex
  exact (Tryz.refText_any h1 t hlen).mono fun _ _ ⟨e1, e2⟩ => ⟨e1, h.chg h2 e2⟩
theorem Tryz.WR.bytes {B : Nat} {w0 w : World} {x : Nat} {l : List UInt8} (h : Tryz.WR B w0 w x l) (hlen : l.length ≤ 140737488355328) :
    Calls Tryz.prog 38 #[.pointer (some ⟨x, 0, none⟩)] w fun e w' => ∃ ad cap, e = .returned (.slice ad l.length cap) ∧ w'.ownsRow w.heap.size 5 1 (.slice ad l.length cap) l.length (Lib.byteCells l) ∧ Below w.heap.size w w' := by
  obtain ⟨own, h1, h2⟩ := h.ex
  exact Tryz.refBytes_any h1 hlen
end Go.Proofs
namespace Go.Proofs
open Go.RowKit Go.Wi Go.Se Go.Ct Go.Dg
theorem Tryz.rWithin_any (n a b : Int) (w : World) : Calls Tryz.prog 30 #[.int .i64 n, .int .i64 a, .int .i64 b] w fun e w' => e = .returned (.bool (decide (a ≤ n) && decide (n ≤ b))) ∧ w' = w := by
  by_cases h1 : a ≤ n
  all_goals
    by_cases h2 : n ≤ b
    all_goals
      go_enter Tryz.func30, Tryz.ntmps30
      go_wp2
      go_ret
      simp [h1, h2]
set_option maxHeartbeats 1000000 in
theorem Tryz.rIsUser_any (u : ByteArray) (hu1 : 1 ≤ u.size) (hu2 : u.size ≤ 60) (w : World) : Calls Tryz.prog 31 #[.string u] w fun e w' => e = .returned (.bool true) ∧ w' = w := by
  have h := Tryz.rWithin_any (u.size : Int) 1 60 w
  rw [Se.dec2 (by omega) (by omega)] at h
  clear hu1 hu2
  go_enter Tryz.func31, Tryz.ntmps31
  go_wp2_with (first | (go_at_call 30; refine h.mono ?_; clear h; rintro e w1 ⟨rfl, rfl⟩) | fail)
  go_ret
  exact ⟨rfl, rfl⟩
set_option maxHeartbeats 1000000 in
theorem Tryz.rMay_any (n : Int) (h1 : 0 ≤ n) (h2 : n ≤ 1000000000) (w : World) : Calls Tryz.prog 32 #[.int .i64 n] w fun e w' => e = .returned (.bool true) ∧ w' = w := by
  have h := Tryz.rWithin_any n 0 1000000000 w
  rw [Se.dec2 h1 h2] at h
  clear h1 h2
  go_enter Tryz.func32, Tryz.ntmps32
  go_wp2_with (first | (go_at_call 30; refine h.mono ?_; clear h; rintro e w1 ⟨rfl, rfl⟩) | fail)
  go_ret
  exact ⟨rfl, rfl⟩
/-- The document's keeper in its block. -/
def Tryz.Rk (w : World) (kb : Nat) (key : ByteArray) (a b c l g : Int) (tv dv : Value) : Prop := w.heap[kb]? = some (.cells #[.string key, .int .i64 a, .int .i64 b, .int .i64 c, .int .i64 l, .int .i64 g, tv, dv] 70 (0, 0))
set_option maxHeartbeats 2000000 in
theorem Tryz.rNew_yes (key : ByteArray) (hk1 : 16 ≤ key.size) (hk2 : key.size ≤ 64) (a b c : Int) (hm : Se.Nu.May ⟨a, b, c, 0, 0⟩) (w : World) :
    Calls Tryz.prog 14 #[.string key, .int .i64 a, .int .i64 b, .int .i64 c] w fun e w' => ∃ kb, e = .returned (.tuple #[.pointer (some ⟨kb, 0, none⟩), .int .i64 0]) ∧ Tryz.Rk w' kb key a b c 0 0 (.slice none 0 0) (.slice none 0 0) ∧ w.heap.size ≤ kb ∧ Below w.heap.size w w' := by
  have h1 := Tryz.rWithin_any (key.size : Int) 16 64 w
  have h2 := Tryz.rWithin_any a 1 1000000 w
  have h3 := Tryz.rWithin_any b 1 100 w
  have h4 := Tryz.rWithin_any c 1 1000000 w
  obtain ⟨⟨m1, m2⟩, ⟨m3, m4⟩, m5, m6⟩ := hm
  rw [Se.dec2 (by omega) (by omega)] at h1
  rw [Se.dec2 m1 m2] at h2
  rw [Se.dec2 m3 m4] at h3
  rw [Se.dec2 m5 m6] at h4
  clear m1 m2 m3 m4 m5 m6 hk1 hk2
  go_enter Tryz.func14, Tryz.ntmps14
  go_wp2_with (first
    | (go_at_call 30; refine h1.mono ?_; clear h1; rintro e w1 ⟨rfl, hw⟩; subst hw)
    | (go_at_call 30; refine h2.mono ?_; clear h2; rintro e w1 ⟨rfl, hw⟩; subst hw)
    | (go_at_call 30; refine h3.mono ?_; clear h3; rintro e w1 ⟨rfl, hw⟩; subst hw)
    | (go_at_call 30; refine h4.mono ?_; clear h4; rintro e w1 ⟨rfl, hw⟩; subst hw)
    | fail)
  go_ret2
  exact ⟨_, rfl, heap_alloc_new _ _, Nat.le_refl _, (Below.refl _ _).alloc (Nat.le_refl _) _⟩
set_option maxHeartbeats 2000000 in
theorem Tryz.rSealed_any {w : World} {kb : Nat} {key : ByteArray} {a b c l g : Int} {tv dv : Value} (h : Tryz.Rk w kb key a b c l g tv dv) (hk : key.size ≤ 64) (s : ByteArray) (hs : s.size ≤ 1000) :
    Calls Tryz.prog 37 #[.pointer (some ⟨kb, 0, none⟩), .string s] w fun e w' => e = .returned (.string ⟨(enc (s.toList ++ Dg.mac key.toList s.toList)).toArray⟩) ∧ Below w.heap.size w w' := by
  have c0 : w.cell? ⟨kb, 0, none⟩ = some (.string key) := cell_of_row w kb 0 _ _ _ h
  have hm := Tryz.refMac_any key s (by omega) (by omega) w
  obtain ⟨M, hM⟩ : ∃ M : ByteArray, M = ⟨(Dg.mac key.toList s.toList).toArray⟩ := ⟨_, rfl⟩
  have hMl : M.size = 32 := by rw [hM]; exact Dg.mac_len _ _
  have hMd : M.toList = Dg.mac key.toList s.toList := by rw [hM, ByteArray.toList_eq]
  rw [← hM] at hm
  have he := fun W => Tryz.refEnc_any (s ++ M) (by rw [ByteArray.size_append]; omega) W
  have HE : Hid _ := he
  have HD : Hid (M.toList = Dg.mac key.toList s.toList) := hMd
  clear h hk hM he hMd
  go_enter Tryz.func37, Tryz.ntmps37
  go_wp2_with (first
    | (go_at_call 62; refine hm.mono ?_; clear hm; rintro e w1 ⟨rfl, hb1⟩)
    | (go_at_call 61; refine (HE.out _).mono ?_; clear HE; rintro e w2 ⟨rfl, hb2⟩)
    | fail)
  go_ret
  refine ⟨?_, hb1.trans (hb2.mono hb1.size)⟩
  show Ending.returned (.string ⟨(enc (s ++ M).toList).toArray⟩) = _
  rw [Dg.app_list, HD.out]
set_option maxHeartbeats 4000000 in
set_option maxRecDepth 4000 in
theorem Tryz.rTokText_any {w : World} {kb : Nat} {key : ByteArray} {a b c l g : Int} {tv dv : Value} (h : Tryz.Rk w kb key a b c l g tv dv) (hk : key.size ≤ 64) (x : Tk) (hu : x.u.size ≤ 60) (h1 : 0 ≤ x.n) (h2 : x.n ≤ 9223372036854775807) (h3 : 0 ≤ x.t) (h4 : x.t ≤ 9223372036854775807) :
    Calls Tryz.prog 16 #[.pointer (some ⟨kb, 0, none⟩), .agg #[.int .i64 x.n, .string x.u, .int .i64 x.t]] w fun e w' => e = .returned (.string (Se.Tk.text x key.toList)) ∧ Below w.heap.size w w' := by
  have hsl := Se.said_len x hu (by omega) h2 (by omega) h4
  have a1 := cnt_len10 (n := x.u.size) (by omega)
  have a2 := cnt_len10 (zig_lt (show -9223372036854775808 ≤ x.t by omega) h4)
  have a3 : x.u.data.toList.length = x.u.size := rfl
  have b1 : ([] ++ (cnt x.u.size ++ x.u.data.toList)).length ≤ 140737488355300 := by simp only [List.length_append, List.length_nil]; omega
  have b2 : (([] ++ (cnt x.u.size ++ x.u.data.toList)) ++ cnt (zig x.t)).length ≤ 140737488355300 := by simp only [List.length_append, List.length_nil]; omega
  obtain ⟨W, hW⟩ : ∃ W, W = w.alloc (.cells #[.int .i64 x.n, .string x.u, .int .i64 x.t] 43) := ⟨_, rfl⟩
  have hbel : Below w.heap.size w W := by rw [hW]; exact (Below.refl w.heap.size w).alloc (Nat.le_refl _) _
  have hWn : W.heap[w.heap.size]? = some (.cells #[.int .i64 x.n, .string x.u, .int .i64 x.t] 43 (0, 0)) := by rw [hW]; exact heap_alloc_new w _
  have hbx : ∀ w', Below W.heap.size W w' → w'.heap[w.heap.size]? = some (.cells #[.int .i64 x.n, .string x.u, .int .i64 x.t] 43 (0, 0)) := fun w' hb => (hb.block _ (block_lt hWn)).trans hWn
  have HW : Hid (w.alloc (.cells #[.int .i64 x.n, .string x.u, .int .i64 x.t] 43) = W) := hW.symm
  have h0 := Tryz.WR.new W
  have hsaid : ((([] ++ (cnt x.u.size ++ x.u.data.toList)) ++ cnt (zig x.t)) ++ cnt (zig x.n)) = x.said := rfl
  have HS : Hid (((([] ++ (cnt x.u.size ++ x.u.data.toList)) ++ cnt (zig x.t)) ++ cnt (zig x.n)) = x.said) := hsaid
  have HR : Hid (∀ W2, Below w.heap.size w W2 → Calls Tryz.prog 37 #[.pointer (some ⟨kb, 0, none⟩), .string ⟨x.said.toArray⟩] W2 fun e w' => e = .returned (.string (Se.Tk.text x key.toList)) ∧ Below W2.heap.size W2 w') := fun W2 hb => by
    have hh := Tryz.rSealed_any (w := W2) ((hb.block kb (block_lt h)).trans h) hk ⟨x.said.toArray⟩ (by show x.said.length ≤ 1000; omega)
    rw [show (⟨x.said.toArray⟩ : ByteArray).toList = x.said by rw [ByteArray.toList_eq]] at hh
    exact hh
  clear hW a1 a2 a3 hWn hsaid h hk
  go_enter Tryz.func16, Tryz.ntmps16
  go_upto_region 1 with (fail)
  rw [HW.out]
  go_wp2_with (first
    | (go_at_call 34; refine h0.mono ?_; clear h0; rintro e w1 ⟨wb, rfl, hW1⟩; have c1 : w1.cell? ⟨w.heap.size, 1, none⟩ = some (.string x.u) := cell_of_row w1 _ 1 _ _ _ (hbx w1 hW1.bel); have q1 := hW1.text x.u (by simp only [List.length_nil]; omega))
    | (go_at_call 35; refine q1.mono ?_; clear q1 c1 hW1; rintro e w2 ⟨⟨v2, rfl⟩, hW2⟩; have c2 : w2.cell? ⟨w.heap.size, 2, none⟩ = some (.int .i64 x.t) := cell_of_row w2 _ 2 _ _ _ (hbx w2 hW2.bel); have q2 := hW2.int x.t h3 h4 b1)
    | (go_at_call_of 36 (Value.int IntKind.i64 x.t); refine q2.mono ?_; clear q2 c2 hW2; rintro e w3 ⟨⟨v3, rfl⟩, hW3⟩; have c3 : w3.cell? ⟨w.heap.size, 0, none⟩ = some (.int .i64 x.n) := cell_of_row w3 _ 0 _ _ _ (hbx w3 hW3.bel); have q3 := hW3.int x.n h1 h2 b2)
    | (go_at_call 36; refine q3.mono ?_; clear q3 c3 hW3; rintro e w4 ⟨⟨v4, rfl⟩, hW4⟩; rw [HS.out] at hW4; have q4 := hW4.bytes (by omega))
    | (go_at_call 38; refine q4.mono ?_; clear q4; rintro e w5 ⟨ad5, cap5, rfl, hr5, hb5⟩; have hcv := Tryz.conv_bs (Bs.ofRow hr5); have hbw := hbel.trans ((hW4.bel.trans (hb5.mono hW4.le)).mono hbel.size); have q5 := HR.out w5 hbw; clear hr5 hb5 hW4)
    | (go_at_call 37; refine q5.mono ?_; clear q5; rintro e w6 ⟨rfl, hb6⟩)
    | fail)
  go_ret
  exact ⟨rfl, hbw.trans (hb6.mono hbw.size)⟩
end Go.Proofs
