/-
  Laid together by packg.py of WuG.
-/
import Derived.Test.YtjiidkkmnlcpcaaGreatDoorPWuD
import Derived.Test.YtjiidkkmnlcpcaaGreatDoorPbB
import Derived.Test.YtjiidkkmnlcpcaaGreatDoorPaP
import Derived.Deep.RegionWith
namespace Go.Wb
open Go.RowKit Go.Wi Go.Proofs
/-- The machine from which one goes on. -/
def onM (f : Nat) (ov : Bool) : Msg := if ov then zero else newReq f
/-- How many bytes are left behind the place at which a request begins. -/
def leftN (n : Nat) (w : World) (q : Nat) : Nat := match w.cell? ⟨q, 1, none⟩ with | some (.int _ z) => n - z.toNat | _ => 0
theorem leftN_of {n f : Nat} {w : World} {q : Nat} (h : w.cell? ⟨q, 1, none⟩ = some (.int .i64 f)) : leftN n w q = n - f := by unfold leftN; rw [h]; simp
/-- A box of seven that is written whole. -/
theorem set7w {w : World} {g : Nat} {T : TypeId} {a0 a1 a2 a3 a4 a5 a6 : Value} (h : w.heap[g]? = some (.cells #[a0, a1, a2, a3, a4, a5, a6] T (0, 0))) (v0 v1 v2 v3 v4 v5 v6 : Value) :
    (((((((w.setCell ⟨g, 0, none⟩ v0).setCell ⟨g, 1, none⟩ v1).setCell ⟨g, 2, none⟩ v2).setCell ⟨g, 3, none⟩ v3).setCell ⟨g, 4, none⟩ v4).setCell ⟨g, 5, none⟩ v5).setCell ⟨g, 6, none⟩ v6).heap[g]? = some (.cells #[v0, v1, v2, v3, v4, v5, v6] T (0, 0)) ∧ Wo (fun k => k = g) w (((((((w.setCell ⟨g, 0, none⟩ v0).setCell ⟨g, 1, none⟩ v1).setCell ⟨g, 2, none⟩ v2).setCell ⟨g, 3, none⟩ v3).setCell ⟨g, 4, none⟩ v4).setCell ⟨g, 5, none⟩ v5).setCell ⟨g, 6, none⟩ v6) := by
  obtain ⟨h1, h2⟩ := set7 h v0 v1 v2 v3 v4 v5 v6
  generalize (((((((w.setCell ⟨g, 0, none⟩ v0).setCell ⟨g, 1, none⟩ v1).setCell ⟨g, 2, none⟩ v2).setCell ⟨g, 3, none⟩ v3).setCell ⟨g, 4, none⟩ v4).setCell ⟨g, 5, none⟩ v5).setCell ⟨g, 6, none⟩ v6) = W at *
  exact ⟨h1, h2.os, h2.tape, h2.output, h2.size, h2.block⟩
end Go.Wb
namespace Go.Proofs
open Go.RowKit Go.Wi Go.Wb
/-- The document's parser in its block. -/
def Tryz.Dp (w : World) (q : Nat) (S : List UInt8) (f at_ e : Nat) (ov : Bool) : Prop := w.heap[q]? = some (.cells #[.string ⟨S.toArray⟩, .int .i64 f, .int .i64 at_, .int .i64 e, .bool ov] 79 (0, 0))
theorem Tryz.conv_textF (s : List UInt8) (W : World) : (convert 9 23 (.string ⟨s.toArray⟩)).run Tryz.prog W = .ok (.slice (some ⟨W.heap.size, 0, none⟩) s.length (grownCap W s.length 0 5)) (Lib.bytesWorld W 5 ⟨s.toArray⟩) := by
  have := Lib.run_convert_string_bytes (P := Tryz.prog) W 9 23 5 ⟨s.toArray⟩ (u := .string) Tryz.underlying9 Tryz.underlying23 Tryz.underlying5
  have e : (⟨s.toArray⟩ : ByteArray).size = s.length := by simp [ByteArray.size]
  rw [e] at this
  exact this
/-- What Feed of the document answers. -/
structure Tryz.RFed (w w' : World) (q : Nat) (m : Msg) (b : List UInt8) (n : Nat) (V : Value) (a er : Nat) : Prop where
  rl : Tryz.RlW w' (fun k => w.heap.size ≤ k) V (fd m b).1
  st : ∃ S f ov, Tryz.Dp w' q S f a er ov ∧ DInv (fd m b).2 S f a er ov ∧ S.length ≤ n + b.length
  wo : Wo (fun k => k = q) w w'
/-- In the midst of Feed. -/
structure Tryz.FIn (w wr : World) (q : Nat) (SB : List UInt8) (rs : List Rq) (m' : Msg) (V : Value) (os : List Rq) (f : Nat) (ov : Bool) : Prop where
  rl : Tryz.RlW wr (fun k => w.heap.size ≤ k) V os
  dp : Tryz.Dp wr q SB f 0 0 ov
  le : f ≤ SB.length
  all : os ++ (fd (onM f ov) (SB.drop f)).1 = rs ∧ (fd (onM f ov) (SB.drop f)).2 = m'
  wo : Wo (fun k => k = q) w wr
theorem Tryz.FIn.below {w wr w1 : World} {q : Nat} {SB : List UInt8} {rs : List Rq} {m' : Msg} {V : Value} {os : List Rq} {f : Nat} {ov : Bool} (h : Tryz.FIn w wr q SB rs m' V os f ov) (hb : Below wr.heap.size wr w1) : Tryz.FIn w w1 q SB rs m' V os f ov :=
  ⟨Tryz.RlW.keep h.rl hb.size fun k hk e => ⟨hb.block k hk, e⟩, (hb.block q (block_lt h.dp)).trans h.dp, h.le, h.all, h.wo.below hb h.wo.size⟩
set_option maxRecDepth 20000 in
set_option maxHeartbeats 8000000 in
theorem Tryz.refFeed_any {w : World} {q : Nat} {m : Msg} {S : List UInt8} {f at_ e : Nat} {ov : Bool} (hd : Tryz.Dp w q S f at_ e ov) (hi : DInv m S f at_ e ov) (b : List UInt8) (hl : S.length + b.length ≤ 999999999999) :
    Calls Tryz.prog 29 #[.pointer (some ⟨q, 0, none⟩), .string ⟨b.toArray⟩] w fun e' w' => ∃ ad n cap a er, e' = .returned (.tuple #[.slice ad n cap, .int .i64 (a : Nat), .int .i64 (er : Nat)]) ∧ Tryz.RFed w w' q m b S.length (.slice ad n cap) a er := by
  have hq := block_lt hd
  have c0 : w.cell? ⟨q, 0, none⟩ = some (.string ⟨S.toArray⟩) := cell_of_row _ _ 0 _ _ _ hd
  have c2 : w.cell? ⟨q, 2, none⟩ = some (.int .i64 at_) := cell_of_row _ _ 2 _ _ _ hd
  have c3 : w.cell? ⟨q, 3, none⟩ = some (.int .i64 e) := cell_of_row _ _ 3 _ _ _ hd
  have c4 : w.cell? ⟨q, 4, none⟩ = some (.bool ov) := cell_of_row _ _ 4 _ _ _ hd
  have f0 := frozen_of_row _ _ 0 _ _ hd
  by_cases hs : e ≠ 0 ∨ ov = true
  · have hfd := DInv.shut hi hs b
    have HR : Hid (∀ n, Tryz.RFed w (w.drewN n) q m b S.length (.slice none 0 0) at_ e) := fun n => ⟨by rw [hfd]; exact Tryz.RlW.nil _ _, ⟨S, f, ov, hd, by rw [hfd]; exact hi, by omega⟩, (Wo.refl _ w).drewN n⟩
    clear hd hi hfd c0 f0
    by_cases he : e = 0
    · have hov : ov = true := by
        rcases hs with h | h
        · exact absurd he h
        · exact h
      subst he hov
      clear hs
      go_enter Tryz.func29, Tryz.ntmps29
      go_upto_region 3 with (fail)
      go_quiet (fail)
      go_wp2
      go_ret3
      exact ⟨_, _, _, _, _, rfl, HR.out _⟩
    · have qe : ((e : Int) != 0) = true := by simp; omega
      clear hs
      go_enter Tryz.func29, Tryz.ntmps29
      go_upto_region 3 with (fail)
      go_quiet (fail)
      go_wp2
      go_ret3
      exact ⟨_, _, _, _, _, rfl, HR.out _⟩
  · obtain rfl : e = 0 := Decidable.not_not.1 fun h => hs (.inl h)
    obtain rfl : ov = false := by
      cases ov with
      | false => rfl
      | true => exact absurd (.inr rfl) hs
    obtain ⟨hfd, rfl⟩ := DInv.fed hi b
    obtain ⟨SB, hSB⟩ : ∃ SB, S ++ b = SB := ⟨_, rfl⟩
    have hcat : (⟨S.toArray⟩ : ByteArray) ++ ⟨b.toArray⟩ = ⟨SB.toArray⟩ := by rw [cat2w, hSB]
    have hSBl : SB.length ≤ 999999999999 := by rw [← hSB, List.length_append]; exact hl
    have HSBL : Hid (SB.length ≤ S.length + b.length) := (by show _ ≤ _; rw [← hSB, List.length_append]; exact Nat.le_refl _)
    have hfl : f ≤ SB.length := by have := hi.le; rw [← hSB, List.length_append]; omega
    rw [hSB] at hfd
    have hn1 : ¬ 9223372036854775807 < S.length + b.length := by omega
    have hz1 := text_size S
    have hz2 := text_size b
    have hset : Tryz.Dp (w.setCell ⟨q, 0, none⟩ (.string ⟨SB.toArray⟩)) q SB f 0 0 false := heap_setCell_same w q 0 _ _ _ hd
    obtain ⟨rs, hrs⟩ : ∃ rs, (fd m b).1 = rs := ⟨_, rfl⟩
    obtain ⟨m', hm'⟩ : ∃ m', (fd m b).2 = m' := ⟨_, rfl⟩
    have HFD : Hid ((fd m b).1 = rs ∧ (fd m b).2 = m') := ⟨hrs, hm'⟩
    have HRL : Hid (rs.length ≤ 999999999999) := (by
      show rs.length ≤ _
      rw [← hrs, hfd]
      have := fd_len (newReq f) (SB.drop f)
      rw [List.length_drop] at this
      omega)
    have HIN : Hid (Tryz.FIn w (w.setCell ⟨q, 0, none⟩ (.string ⟨SB.toArray⟩)) q SB rs m' (.slice none 0 0) [] f false) := ⟨Tryz.RlW.nil _ _, hset, hfl, ⟨by rw [← hrs, hfd]; rfl, by rw [← hm', hfd]; rfl⟩, (Wo.refl _ w).setCell q 0 _ (.inl rfl)⟩
    clear hi hd hset hfd hrs hm' hSB hs
    go_enter Tryz.func29, Tryz.ntmps29
    go_upto_region 5 with (fail)
    clear hcat c0 c2 c3 c4 f0
    generalize w.setCell ⟨q, 0, none⟩ (.string ⟨SB.toArray⟩) = W0 at *
    go_loopw [7, 8, 9, 10, 11, 12] (fun u7 _ _ _ _ _ wr => ∃ ad n cap os f ov, u7 = .slice ad n cap ∧ Hid (Tryz.FIn w wr q SB rs m' (.slice ad n cap) os f ov)) (fun _ _ _ _ _ _ wr => leftN SB.length wr q)
    case atStart => exact ⟨_, _, _, _, _, _, rfl, HIN⟩
    case round =>
      clear HIN hfl hn1
      obtain ⟨ad, n, cap, os, f, ov, rfl, HIN⟩ := hrel
      have hd := HIN.out.dp
      have c0 : wr.cell? ⟨q, 0, none⟩ = some (.string ⟨SB.toArray⟩) := cell_of_row _ _ 0 _ _ _ hd
      have c1 : wr.cell? ⟨q, 1, none⟩ = some (.int .i64 f) := cell_of_row _ _ 1 _ _ _ hd
      have c2 : wr.cell? ⟨q, 2, none⟩ = some (.int .i64 0) := cell_of_row _ _ 2 _ _ _ hd
      have c3 : wr.cell? ⟨q, 3, none⟩ = some (.int .i64 0) := cell_of_row _ _ 3 _ _ _ hd
      have c4 : wr.cell? ⟨q, 4, none⟩ = some (.bool ov) := cell_of_row _ _ 4 _ _ _ hd
      have HLF : Hid (leftN SB.length wr q = SB.length - f) := leftN_of c1
      clear hd
      cases ov with
      | true =>
        have HR : Hid (∀ k, Tryz.RFed w (wr.drewN k) q m b S.length (.slice ad n cap) 0 0) := fun k => (by
          obtain ⟨h1, h2, h3, ⟨h4, h5⟩, h6⟩ := HIN.out
          obtain ⟨e1, e2⟩ := HFD.out
          have h4 : os ++ (fd zero (SB.drop f)).1 = rs := h4
          have h5 : (fd zero (SB.drop f)).2 = m' := h5
          rw [fd_over (m := zero) rfl] at h4 h5
          have h4 : os ++ [] = rs := h4
          have h5 : zero = m' := h5
          rw [List.append_nil] at h4
          exact ⟨by rw [e1, ← h4]; exact Tryz.RlW.keep h1 (Nat.le_refl _) fun k _ e => ⟨rfl, e⟩, ⟨SB, f, true, h2, by rw [e2, ← h5]; exact ⟨h3, .inr (.inr ⟨rfl, rfl, rfl, rfl⟩)⟩, HSBL.out⟩, h6.drewN k⟩)
        clear HIN HFD c0 c1
        go_upto_region 14 with (fail)
        go_quiet (fail)
        go_wp2
        go_ret3
        exact ⟨_, _, _, _, _, rfl, HR.out _⟩
      | false =>
        have hf := HIN.out.le
        have KR : Hid (∀ W : World, Calls Tryz.prog 47 #[.string ⟨SB.toArray⟩, .int .i64 f, .bool false] W fun e w' => ∃ C, ∃ en at_ er : Nat, ∃ wh, e = .returned (.tuple #[.agg C, .int .i64 en, .int .i64 at_, .int .i64 er, .bool wh]) ∧ Tryz.ReqOk W w' W.heap.size SB f C en at_ er wh) := fun W => Tryz.readReq_any f hf (by omega)
        have HQ : Hid (q < wr.heap.size) := block_lt HIN.out.dp
        cases hR : deadR (requD (SB.drop f) f) with
        | true =>
          obtain ⟨a, ha⟩ : ∃ a, (codes (requD (SB.drop f) f)).1 = a := ⟨_, rfl⟩
          obtain ⟨er, her⟩ : ∃ a, (codes (requD (SB.drop f) f)).2 = a := ⟨_, rfl⟩
          have kr : ∀ W : World, Calls Tryz.prog 47 #[.string ⟨SB.toArray⟩, .int .i64 f, .bool false] W fun e w' => e = .returned (.tuple #[.agg #[.string ⟨#[]⟩, .string ⟨#[]⟩, .int .i64 0, .int .i64 0, .slice none 0 0, .string ⟨#[]⟩, .bool false], .int .i64 0, .int .i64 a, .int .i64 er, .bool false]) ∧ Hid (Below W.heap.size W w') ∧ Hid (∃ mm, fd (newReq f) (SB.drop f) = ([], mm) ∧ DInv mm SB f a er false) := fun W => (by
            refine (KR.out W).mono ?_
            rintro e w' ⟨C, en, at_, er', wh, rfl, hr⟩
            obtain ⟨rfl, rfl, rfl, rfl, rfl, hz⟩ := hr.dead hR
            refine ⟨?_, hr.bel, ?_⟩
            · rw [ha, her]; rfl
            · cases hx : requD (SB.drop f) f with
              | bad a2 e2 =>
                rw [hx] at ha her
                obtain rfl : a2 = a := ha
                obtain rfl : e2 = er := her
                exact DInv.bad hf hx (hz _ _ hx)
              | more =>
                rw [hx] at ha her
                obtain rfl : 0 = a := ha
                obtain rfl : 0 = er := her
                exact DInv.more hf hx
              | ok z r k => rw [hx] at hR; cases hR)
          clear hR KR ha her
          go_upto_region 6 with (fail)
          go_cut [8, 9, 10, 11, 12] (fun _ _ u10 u11 u12 wx => u10 = .int .i64 a ∧ u11 = .int .i64 er ∧ u12 = .bool false ∧ Hid (Below wr.heap.size wr wx) ∧ Hid (∃ mm, fd (newReq f) (SB.drop f) = ([], mm) ∧ DInv mm SB f a er false))
          case first =>
            have c0a : (wr.alloc (.cells #[.string ⟨#[]⟩, .string ⟨#[]⟩, .int .i64 0, .int .i64 0, .slice none 0 0, .string ⟨#[]⟩, .bool false] 99)).cell? ⟨q, 0, none⟩ = some (.string ⟨SB.toArray⟩) := (((Below.refl wr.heap.size wr).alloc (Nat.le_refl _) (.cells #[.string ⟨#[]⟩, .string ⟨#[]⟩, .int .i64 0, .int .i64 0, .slice none 0 0, .string ⟨#[]⟩, .bool false] 99)).cell (p := ⟨q, 0, none⟩) HQ.out).trans c0
            have c1a : (wr.alloc (.cells #[.string ⟨#[]⟩, .string ⟨#[]⟩, .int .i64 0, .int .i64 0, .slice none 0 0, .string ⟨#[]⟩, .bool false] 99)).cell? ⟨q, 1, none⟩ = some (.int .i64 f) := (((Below.refl wr.heap.size wr).alloc (Nat.le_refl _) (.cells #[.string ⟨#[]⟩, .string ⟨#[]⟩, .int .i64 0, .int .i64 0, .slice none 0 0, .string ⟨#[]⟩, .bool false] 99)).cell (p := ⟨q, 1, none⟩) HQ.out).trans c1
            have cd : wr.drew.cell? ⟨q, 0, none⟩ = some (.string ⟨SB.toArray⟩) ∧ wr.drew.cell? ⟨q, 1, none⟩ = some (.int .i64 f) := ⟨c0, c1⟩
            have ca : (wr.alloc (.cells #[.string ⟨#[]⟩, .string ⟨#[]⟩, .int .i64 0, .int .i64 0, .slice none 0 0, .string ⟨#[]⟩, .bool false] 99)).cell? ⟨q, 0, none⟩ = some (.string ⟨SB.toArray⟩) ∧ (wr.alloc (.cells #[.string ⟨#[]⟩, .string ⟨#[]⟩, .int .i64 0, .int .i64 0, .slice none 0 0, .string ⟨#[]⟩, .bool false] 99)).cell? ⟨q, 1, none⟩ = some (.int .i64 f) := ⟨c0a, c1a⟩
            have cad : (wr.alloc (.cells #[.string ⟨#[]⟩, .string ⟨#[]⟩, .int .i64 0, .int .i64 0, .slice none 0 0, .string ⟨#[]⟩, .bool false] 99)).drew.cell? ⟨q, 0, none⟩ = some (.string ⟨SB.toArray⟩) ∧ (wr.alloc (.cells #[.string ⟨#[]⟩, .string ⟨#[]⟩, .int .i64 0, .int .i64 0, .slice none 0 0, .string ⟨#[]⟩, .bool false] 99)).drew.cell? ⟨q, 1, none⟩ = some (.int .i64 f) := ⟨c0a, c1a⟩
            have cda : (wr.drew.alloc (.cells #[.string ⟨#[]⟩, .string ⟨#[]⟩, .int .i64 0, .int .i64 0, .slice none 0 0, .string ⟨#[]⟩, .bool false] 99)).cell? ⟨q, 0, none⟩ = some (.string ⟨SB.toArray⟩) ∧ (wr.drew.alloc (.cells #[.string ⟨#[]⟩, .string ⟨#[]⟩, .int .i64 0, .int .i64 0, .slice none 0 0, .string ⟨#[]⟩, .bool false] 99)).cell? ⟨q, 1, none⟩ = some (.int .i64 f) := ⟨c0a, c1a⟩
            go_region_held3 (fun W => W.cell? ⟨q, 0, none⟩ = some (.string ⟨SB.toArray⟩) ∧ W.cell? ⟨q, 1, none⟩ = some (.int .i64 f)) (first | with_reducible exact cd | with_reducible exact ca | with_reducible exact cad | with_reducible exact cda | with_reducible exact gg | with_reducible exact gh | with_reducible exact gi | (trace_state; fail)) (first
              | (go_at_call 47; refine (kr wr.drew).mono ?_; rintro e w1 ⟨rfl, HB1, HDI⟩; have HB : Hid (Below wr.heap.size wr w1) := ((Below.refl _ wr).drew).trans HB1.out; have gg : w1.cell? ⟨q, 0, none⟩ = some (.string ⟨SB.toArray⟩) ∧ w1.cell? ⟨q, 1, none⟩ = some (.int .i64 f) := ⟨(HB.out.cell (p := ⟨q, 0, none⟩) HQ.out).trans c0, (HB.out.cell (p := ⟨q, 1, none⟩) HQ.out).trans c1⟩; have gh : (w1.alloc (.cells #[.string ⟨#[]⟩, .string ⟨#[]⟩, .int .i64 0, .int .i64 0, .slice none 0 0, .string ⟨#[]⟩, .bool false] 99)).cell? ⟨q, 0, none⟩ = some (.string ⟨SB.toArray⟩) ∧ (w1.alloc (.cells #[.string ⟨#[]⟩, .string ⟨#[]⟩, .int .i64 0, .int .i64 0, .slice none 0 0, .string ⟨#[]⟩, .bool false] 99)).cell? ⟨q, 1, none⟩ = some (.int .i64 f) := ⟨(((Below.refl w1.heap.size w1).alloc (Nat.le_refl _) (.cells #[.string ⟨#[]⟩, .string ⟨#[]⟩, .int .i64 0, .int .i64 0, .slice none 0 0, .string ⟨#[]⟩, .bool false] 99)).cell (p := ⟨q, 0, none⟩) (Nat.lt_of_lt_of_le HQ.out HB.out.size)).trans gg.1, (((Below.refl w1.heap.size w1).alloc (Nat.le_refl _) (.cells #[.string ⟨#[]⟩, .string ⟨#[]⟩, .int .i64 0, .int .i64 0, .slice none 0 0, .string ⟨#[]⟩, .bool false] 99)).cell (p := ⟨q, 1, none⟩) (Nat.lt_of_lt_of_le HQ.out HB.out.size)).trans gg.2⟩)
              | (go_at_call 47; refine (kr (wr.alloc (.cells #[.string ⟨#[]⟩, .string ⟨#[]⟩, .int .i64 0, .int .i64 0, .slice none 0 0, .string ⟨#[]⟩, .bool false] 99)).drew).mono ?_; rintro e w1 ⟨rfl, HB1, HDI⟩; have hx : w1.heap[wr.heap.size]? = some (.cells #[.string ⟨#[]⟩, .string ⟨#[]⟩, .int .i64 0, .int .i64 0, .slice none 0 0, .string ⟨#[]⟩, .bool false] 99 (0, 0)) := (HB1.out.block _ (by simp)).trans (heap_alloc_new wr _); have HB : Hid (Below wr.heap.size wr w1) := (((Below.refl wr.heap.size wr).alloc (Nat.le_refl _) _).drew).trans (HB1.out.mono (by simp)); have z0 : w1.cell? ⟨wr.heap.size, 0, none⟩ = some (.string ⟨#[]⟩) := cell_of_row _ _ 0 _ _ _ hx; have z1 : w1.cell? ⟨wr.heap.size, 1, none⟩ = some (.string ⟨#[]⟩) := cell_of_row _ _ 1 _ _ _ hx; have z2 : w1.cell? ⟨wr.heap.size, 2, none⟩ = some (.int .i64 0) := cell_of_row _ _ 2 _ _ _ hx; have z3 : w1.cell? ⟨wr.heap.size, 3, none⟩ = some (.int .i64 0) := cell_of_row _ _ 3 _ _ _ hx; have z4 : w1.cell? ⟨wr.heap.size, 4, none⟩ = some (.slice none 0 0) := cell_of_row _ _ 4 _ _ _ hx; have z5 : w1.cell? ⟨wr.heap.size, 5, none⟩ = some (.string ⟨#[]⟩) := cell_of_row _ _ 5 _ _ _ hx; have z6 : w1.cell? ⟨wr.heap.size, 6, none⟩ = some (.bool false) := cell_of_row _ _ 6 _ _ _ hx; have y0 := frozen_of_row _ _ 0 _ _ hx; have y1 := frozen_of_row _ _ 1 _ _ hx; have y2 := frozen_of_row _ _ 2 _ _ hx; have y3 := frozen_of_row _ _ 3 _ _ hx; have y4 := frozen_of_row _ _ 4 _ _ hx; have y5 := frozen_of_row _ _ 5 _ _ hx; have y6 := frozen_of_row _ _ 6 _ _ hx; have gg : w1.cell? ⟨q, 0, none⟩ = some (.string ⟨SB.toArray⟩) ∧ w1.cell? ⟨q, 1, none⟩ = some (.int .i64 f) := ⟨(HB.out.cell (p := ⟨q, 0, none⟩) HQ.out).trans c0, (HB.out.cell (p := ⟨q, 1, none⟩) HQ.out).trans c1⟩; obtain ⟨s7, w7⟩ := set7w hx (.string ⟨#[]⟩) (.string ⟨#[]⟩) (.int .i64 0) (.int .i64 0) (.slice none 0 0) (.string ⟨#[]⟩) (.bool false); have hqw : q < w1.heap.size := Nat.lt_of_lt_of_le HQ.out HB.out.size; have hqn : ¬ q = wr.heap.size := (by have := HQ.out; omega); have gi : (((((((w1.setCell ⟨wr.heap.size, 0, none⟩ (.string ⟨#[]⟩)).setCell ⟨wr.heap.size, 1, none⟩ (.string ⟨#[]⟩)).setCell ⟨wr.heap.size, 2, none⟩ (.int .i64 0)).setCell ⟨wr.heap.size, 3, none⟩ (.int .i64 0)).setCell ⟨wr.heap.size, 4, none⟩ (.slice none 0 0)).setCell ⟨wr.heap.size, 5, none⟩ (.string ⟨#[]⟩)).setCell ⟨wr.heap.size, 6, none⟩ (.bool false)).cell? ⟨q, 0, none⟩ = some (.string ⟨SB.toArray⟩) ∧ (((((((w1.setCell ⟨wr.heap.size, 0, none⟩ (.string ⟨#[]⟩)).setCell ⟨wr.heap.size, 1, none⟩ (.string ⟨#[]⟩)).setCell ⟨wr.heap.size, 2, none⟩ (.int .i64 0)).setCell ⟨wr.heap.size, 3, none⟩ (.int .i64 0)).setCell ⟨wr.heap.size, 4, none⟩ (.slice none 0 0)).setCell ⟨wr.heap.size, 5, none⟩ (.string ⟨#[]⟩)).setCell ⟨wr.heap.size, 6, none⟩ (.bool false)).cell? ⟨q, 1, none⟩ = some (.int .i64 f) := ⟨(World.cell?_of_block (a := ⟨q, 0, none⟩) (w7.block q hqw hqn)).trans gg.1, (World.cell?_of_block (a := ⟨q, 1, none⟩) (w7.block q hqw hqn)).trans gg.2⟩; have HS7 : Hid _ := s7; have HW7 : Hid _ := w7; clear hx s7 w7 hqw hqn)
              | fail)
            · go_wp2_with (fail)
              go_meet
              case rel => exact ⟨rfl, rfl, rfl, HB.out.alloc HB.out.size _, HDI⟩
            · go_wp2_with (fail)
              go_meet
              case rel => exact ⟨rfl, rfl, rfl, Wo.toBelow HB.out HW7.out (fun k e => by omega) HB.out.size, HDI⟩
          case rest =>
            obtain ⟨rfl, rfl, rfl, HB, HDI⟩ := hcut
            have HN2 : Hid (Tryz.FIn w wc q SB rs m' (.slice ad n cap) os f false) := Tryz.FIn.below HIN.out HB.out
            have hd := HN2.out.dp
            have d2 : wc.cell? ⟨q, 2, none⟩ = some (.int .i64 0) := cell_of_row _ _ 2 _ _ _ hd
            have d3 : wc.cell? ⟨q, 3, none⟩ = some (.int .i64 0) := cell_of_row _ _ 3 _ _ _ hd
            have f2 := frozen_of_row _ _ 2 _ _ hd
            have f3 := frozen_of_row _ _ 3 _ _ hd
            have HR : Hid (∀ W, Tryz.Dp W q SB f a er false → Wo (fun k => k = q) wc W → Tryz.RFed w W q m b S.length (.slice ad n cap) a er) := fun W hW hw => (by
              obtain ⟨h1, h2, h3, ⟨h4, h5⟩, h6⟩ := HN2.out
              obtain ⟨e1, e2⟩ := HFD.out
              obtain ⟨mm, g1, g2⟩ := HDI.out
              have h4 : os ++ (fd (newReq f) (SB.drop f)).1 = rs := h4
              have h5 : (fd (newReq f) (SB.drop f)).2 = m' := h5
              rw [g1] at h4 h5
              have h4 : os ++ [] = rs := h4
              have h5 : mm = m' := h5
              rw [List.append_nil] at h4
              exact ⟨by rw [e1, ← h4]; exact Tryz.RlW.keep h1 hw.size fun k hk e => ⟨hw.block k hk (by omega), e⟩, ⟨SB, f, false, hW, by rw [e2, ← h5]; exact g2, HSBL.out⟩, h6.trans hw⟩)
            have HD : Hid (Tryz.Dp wc q SB f 0 0 false) := hd
            have haz : er = 0 → a = 0 := fun e => by
              obtain ⟨mm, _, g2⟩ := HDI.out
              rcases g2.is with ⟨_, _, h, _⟩ | ⟨h, _⟩ | ⟨_, h, _⟩
              · exact h
              · exact absurd e h
              · exact h
            clear HIN HN2 HB HDI HFD hd c0 c1 c2 c3 c4
            by_cases her : er = 0
            · obtain rfl := haz her
              subst her
              clear f2 f3
              have HRR : Hid (∀ k, Tryz.RFed w (wc.drewN k) q m b S.length (.slice ad n cap) 0 0) := fun k => HR.out _ HD.out ((Wo.refl _ wc).drewN k)
              clear HR HD haz
              go_upto_region 14 with (fail)
              go_quiet (fail)
              go_wp2
              go_ret3
              exact ⟨_, _, _, _, _, rfl, HRR.out _⟩
            · have qe : ((er : Int) != 0) = true := by simp; omega
              have HRR : Hid (∀ k, Tryz.RFed w (((wc.setCell ⟨q, 3, none⟩ (.int .i64 er)).setCell ⟨q, 2, none⟩ (.int .i64 a)).drewN k) q m b S.length (.slice ad n cap) a er) := fun k => HR.out _ (heap_setCell_same _ q 2 _ _ _ (heap_setCell_same wc q 3 _ _ _ HD.out)) ((((Wo.refl (fun k => k = q) wc).setCell q 3 _ (.inl rfl)).setCell q 2 _ (.inl rfl)).drewN k)
              have e3 : ((wc.setCell ⟨q, 3, none⟩ (.int .i64 er)).setCell ⟨q, 2, none⟩ (.int .i64 a)).cell? ⟨q, 3, none⟩ = some (.int .i64 er) := cell_of_row _ _ 3 _ _ _ (heap_setCell_same _ q 2 _ _ _ (heap_setCell_same wc q 3 _ _ _ HD.out))
              have e2 : ((wc.setCell ⟨q, 3, none⟩ (.int .i64 er)).setCell ⟨q, 2, none⟩ (.int .i64 a)).cell? ⟨q, 2, none⟩ = some (.int .i64 a) := cell_of_row _ _ 2 _ _ _ (heap_setCell_same _ q 2 _ _ _ (heap_setCell_same wc q 3 _ _ _ HD.out))
              clear HR HD haz her
              go_upto_region 14 with (fail)
              go_quiet (fail)
              go_wp2
              go_ret3
              exact ⟨_, _, _, _, _, rfl, HRR.out _⟩
        | false =>
          obtain ⟨z, r, k, hz⟩ : ∃ z r k, requD (SB.drop f) f = .ok z r k := by
            cases h : requD (SB.drop f) f with
            | bad a e => rw [h] at hR; cases hR
            | more => rw [h] at hR; cases hR
            | ok z r k => exact ⟨z, r, k, rfl⟩
          obtain ⟨me, e1⟩ : ∃ x, z.2.1.1 = x := ⟨_, rfl⟩
          obtain ⟨ta, e2⟩ : ∃ x, z.2.1.2.1 = x := ⟨_, rfl⟩
          obtain ⟨ver, e3⟩ : ∃ x, z.2.1.2.2.1 = x := ⟨_, rfl⟩
          obtain ⟨H, e4⟩ : ∃ x, z.2.1.2.2.2.map hdOf = x := ⟨_, rfl⟩
          obtain ⟨bo, e5⟩ : ∃ x, z.2.2.2.1 = x := ⟨_, rfl⟩
          obtain ⟨la, e6⟩ : ∃ x, endsD (z.2.1.2.2.2.map hdOf) (decide (z.2.1.2.2.1 = 11)) = x := ⟨_, rfl⟩
          have kr : ∀ W : World, Calls Tryz.prog 47 #[.string ⟨SB.toArray⟩, .int .i64 f, .bool false] W fun e w' => ∃ hd hc, e = .returned (.tuple #[.agg #[.string ⟨me.toArray⟩, .string ⟨ta.toArray⟩, .int .i64 0, .int .i64 (ver : Nat), .slice hd H.length hc, .string ⟨bo.toArray⟩, .bool la], .int .i64 (k : Nat), .int .i64 0, .int .i64 0, .bool true]) ∧ Hid (Below W.heap.size W w') ∧ Hid (w'.ownsRow W.heap.size 57 2 (.slice hd H.length hc) H.length (hdCells H)) ∧ Hid (fd (newReq f) (SB.drop f) = (⟨me, ta, H, bo, la⟩ :: (fd (onM k la) (SB.drop k)).1, (fd (onM k la) (SB.drop k)).2) ∧ f < k ∧ k ≤ SB.length) := fun W => (by
            refine (KR.out W).mono ?_
            rintro e w' ⟨C, en, at_, er', wh, rfl, hr⟩
            obtain ⟨rfl, rfl, rfl, rfl, ⟨hd, hc, rfl, hrow⟩, hk, hr2⟩ := hr.live _ _ _ hz
            obtain ⟨g1, g2⟩ := fd_ok hz hf hk hr2
            refine ⟨hd, hc, ?_, hr.bel, ?_, ?_, g2, hk⟩
            · rw [e1, e2, e5, e6, e4, e3]; rfl
            · rw [← e4]; exact hrow
            · rw [g1]
              unfold rqOf onM
              rw [e1, e2, e5, e6, e4])
          clear hR KR hz e1 e2 e3 e4 e5 e6
          go_upto_region 6 with (fail)
          go_cut [8, 9, 10, 11, 12] (fun u8 u9 u10 u11 u12 wx => ∃ gm hd hc, u8 = .pointer (some ⟨gm, 0, none⟩) ∧ u9 = .int .i64 (k : Nat) ∧ u10 = .int .i64 0 ∧ u11 = .int .i64 0 ∧ u12 = .bool true ∧ Hid (wr.heap.size ≤ gm ∧ Below wr.heap.size wr wx ∧ wx.heap[gm]? = some (.cells #[.string ⟨me.toArray⟩, .string ⟨ta.toArray⟩, .int .i64 0, .int .i64 (ver : Nat), .slice hd H.length hc, .string ⟨bo.toArray⟩, .bool la] 99 (0, 0)) ∧ wx.ownsRow wr.heap.size 57 2 (.slice hd H.length hc) H.length (hdCells H)) ∧ Hid (fd (newReq f) (SB.drop f) = (⟨me, ta, H, bo, la⟩ :: (fd (onM k la) (SB.drop k)).1, (fd (onM k la) (SB.drop k)).2) ∧ f < k ∧ k ≤ SB.length))
          case first =>
            have c0a : (wr.alloc (.cells #[.string ⟨#[]⟩, .string ⟨#[]⟩, .int .i64 0, .int .i64 0, .slice none 0 0, .string ⟨#[]⟩, .bool false] 99)).cell? ⟨q, 0, none⟩ = some (.string ⟨SB.toArray⟩) := (((Below.refl wr.heap.size wr).alloc (Nat.le_refl _) (.cells #[.string ⟨#[]⟩, .string ⟨#[]⟩, .int .i64 0, .int .i64 0, .slice none 0 0, .string ⟨#[]⟩, .bool false] 99)).cell (p := ⟨q, 0, none⟩) HQ.out).trans c0
            have c1a : (wr.alloc (.cells #[.string ⟨#[]⟩, .string ⟨#[]⟩, .int .i64 0, .int .i64 0, .slice none 0 0, .string ⟨#[]⟩, .bool false] 99)).cell? ⟨q, 1, none⟩ = some (.int .i64 f) := (((Below.refl wr.heap.size wr).alloc (Nat.le_refl _) (.cells #[.string ⟨#[]⟩, .string ⟨#[]⟩, .int .i64 0, .int .i64 0, .slice none 0 0, .string ⟨#[]⟩, .bool false] 99)).cell (p := ⟨q, 1, none⟩) HQ.out).trans c1
            have cd : wr.drew.cell? ⟨q, 0, none⟩ = some (.string ⟨SB.toArray⟩) ∧ wr.drew.cell? ⟨q, 1, none⟩ = some (.int .i64 f) := ⟨c0, c1⟩
            have ca : (wr.alloc (.cells #[.string ⟨#[]⟩, .string ⟨#[]⟩, .int .i64 0, .int .i64 0, .slice none 0 0, .string ⟨#[]⟩, .bool false] 99)).cell? ⟨q, 0, none⟩ = some (.string ⟨SB.toArray⟩) ∧ (wr.alloc (.cells #[.string ⟨#[]⟩, .string ⟨#[]⟩, .int .i64 0, .int .i64 0, .slice none 0 0, .string ⟨#[]⟩, .bool false] 99)).cell? ⟨q, 1, none⟩ = some (.int .i64 f) := ⟨c0a, c1a⟩
            have cad : (wr.alloc (.cells #[.string ⟨#[]⟩, .string ⟨#[]⟩, .int .i64 0, .int .i64 0, .slice none 0 0, .string ⟨#[]⟩, .bool false] 99)).drew.cell? ⟨q, 0, none⟩ = some (.string ⟨SB.toArray⟩) ∧ (wr.alloc (.cells #[.string ⟨#[]⟩, .string ⟨#[]⟩, .int .i64 0, .int .i64 0, .slice none 0 0, .string ⟨#[]⟩, .bool false] 99)).drew.cell? ⟨q, 1, none⟩ = some (.int .i64 f) := ⟨c0a, c1a⟩
            have cda : (wr.drew.alloc (.cells #[.string ⟨#[]⟩, .string ⟨#[]⟩, .int .i64 0, .int .i64 0, .slice none 0 0, .string ⟨#[]⟩, .bool false] 99)).cell? ⟨q, 0, none⟩ = some (.string ⟨SB.toArray⟩) ∧ (wr.drew.alloc (.cells #[.string ⟨#[]⟩, .string ⟨#[]⟩, .int .i64 0, .int .i64 0, .slice none 0 0, .string ⟨#[]⟩, .bool false] 99)).cell? ⟨q, 1, none⟩ = some (.int .i64 f) := ⟨c0a, c1a⟩
            go_region_held3 (fun W => W.cell? ⟨q, 0, none⟩ = some (.string ⟨SB.toArray⟩) ∧ W.cell? ⟨q, 1, none⟩ = some (.int .i64 f)) (first | with_reducible exact cd | with_reducible exact ca | with_reducible exact cad | with_reducible exact cda | with_reducible exact gg | with_reducible exact gh | with_reducible exact gj | with_reducible exact gi | fail) (first
              | (go_at_call 47; refine (kr wr.drew).mono ?_; rintro e w1 ⟨hd, hc, rfl, HB1, HRW, HDI⟩; have HB : Hid (Below wr.heap.size wr w1) := ((Below.refl _ wr).drew).trans HB1.out; have hqw : q < w1.heap.size := Nat.lt_of_lt_of_le HQ.out HB.out.size; have gg : w1.cell? ⟨q, 0, none⟩ = some (.string ⟨SB.toArray⟩) ∧ w1.cell? ⟨q, 1, none⟩ = some (.int .i64 f) := ⟨(HB.out.cell (p := ⟨q, 0, none⟩) HQ.out).trans c0, (HB.out.cell (p := ⟨q, 1, none⟩) HQ.out).trans c1⟩; have gh : (w1.alloc (.cells #[.string ⟨#[]⟩, .string ⟨#[]⟩, .int .i64 0, .int .i64 0, .slice none 0 0, .string ⟨#[]⟩, .bool false] 99)).cell? ⟨q, 0, none⟩ = some (.string ⟨SB.toArray⟩) ∧ (w1.alloc (.cells #[.string ⟨#[]⟩, .string ⟨#[]⟩, .int .i64 0, .int .i64 0, .slice none 0 0, .string ⟨#[]⟩, .bool false] 99)).cell? ⟨q, 1, none⟩ = some (.int .i64 f) := ⟨(((Below.refl w1.heap.size w1).alloc (Nat.le_refl _) (.cells #[.string ⟨#[]⟩, .string ⟨#[]⟩, .int .i64 0, .int .i64 0, .slice none 0 0, .string ⟨#[]⟩, .bool false] 99)).cell (p := ⟨q, 0, none⟩) hqw).trans gg.1, (((Below.refl w1.heap.size w1).alloc (Nat.le_refl _) (.cells #[.string ⟨#[]⟩, .string ⟨#[]⟩, .int .i64 0, .int .i64 0, .slice none 0 0, .string ⟨#[]⟩, .bool false] 99)).cell (p := ⟨q, 1, none⟩) hqw).trans gg.2⟩; have gj : (w1.alloc (.cells #[.string ⟨me.toArray⟩, .string ⟨ta.toArray⟩, .int .i64 0, .int .i64 (ver : Nat), .slice hd H.length hc, .string ⟨bo.toArray⟩, .bool la] 99)).cell? ⟨q, 0, none⟩ = some (.string ⟨SB.toArray⟩) ∧ (w1.alloc (.cells #[.string ⟨me.toArray⟩, .string ⟨ta.toArray⟩, .int .i64 0, .int .i64 (ver : Nat), .slice hd H.length hc, .string ⟨bo.toArray⟩, .bool la] 99)).cell? ⟨q, 1, none⟩ = some (.int .i64 f) := ⟨(((Below.refl w1.heap.size w1).alloc (Nat.le_refl _) (.cells #[.string ⟨me.toArray⟩, .string ⟨ta.toArray⟩, .int .i64 0, .int .i64 (ver : Nat), .slice hd H.length hc, .string ⟨bo.toArray⟩, .bool la] 99)).cell (p := ⟨q, 0, none⟩) hqw).trans gg.1, (((Below.refl w1.heap.size w1).alloc (Nat.le_refl _) (.cells #[.string ⟨me.toArray⟩, .string ⟨ta.toArray⟩, .int .i64 0, .int .i64 (ver : Nat), .slice hd H.length hc, .string ⟨bo.toArray⟩, .bool la] 99)).cell (p := ⟨q, 1, none⟩) hqw).trans gg.2⟩; clear hqw)
              | (go_at_call 47; refine (kr (wr.alloc (.cells #[.string ⟨#[]⟩, .string ⟨#[]⟩, .int .i64 0, .int .i64 0, .slice none 0 0, .string ⟨#[]⟩, .bool false] 99)).drew).mono ?_; rintro e w1 ⟨hd, hc, rfl, HB1, HRW, HDI⟩; have hx : w1.heap[wr.heap.size]? = some (.cells #[.string ⟨#[]⟩, .string ⟨#[]⟩, .int .i64 0, .int .i64 0, .slice none 0 0, .string ⟨#[]⟩, .bool false] 99 (0, 0)) := (HB1.out.block _ (by simp)).trans (heap_alloc_new wr _); have HB : Hid (Below wr.heap.size wr w1) := (((Below.refl wr.heap.size wr).alloc (Nat.le_refl _) _).drew).trans (HB1.out.mono (by simp)); have z0 : w1.cell? ⟨wr.heap.size, 0, none⟩ = some (.string ⟨#[]⟩) := cell_of_row _ _ 0 _ _ _ hx; have z1 : w1.cell? ⟨wr.heap.size, 1, none⟩ = some (.string ⟨#[]⟩) := cell_of_row _ _ 1 _ _ _ hx; have z2 : w1.cell? ⟨wr.heap.size, 2, none⟩ = some (.int .i64 0) := cell_of_row _ _ 2 _ _ _ hx; have z3 : w1.cell? ⟨wr.heap.size, 3, none⟩ = some (.int .i64 0) := cell_of_row _ _ 3 _ _ _ hx; have z4 : w1.cell? ⟨wr.heap.size, 4, none⟩ = some (.slice none 0 0) := cell_of_row _ _ 4 _ _ _ hx; have z5 : w1.cell? ⟨wr.heap.size, 5, none⟩ = some (.string ⟨#[]⟩) := cell_of_row _ _ 5 _ _ _ hx; have z6 : w1.cell? ⟨wr.heap.size, 6, none⟩ = some (.bool false) := cell_of_row _ _ 6 _ _ _ hx; have y0 := frozen_of_row _ _ 0 _ _ hx; have y1 := frozen_of_row _ _ 1 _ _ hx; have y2 := frozen_of_row _ _ 2 _ _ hx; have y3 := frozen_of_row _ _ 3 _ _ hx; have y4 := frozen_of_row _ _ 4 _ _ hx; have y5 := frozen_of_row _ _ 5 _ _ hx; have y6 := frozen_of_row _ _ 6 _ _ hx; have hqw : q < w1.heap.size := Nat.lt_of_lt_of_le HQ.out HB.out.size; have gg : w1.cell? ⟨q, 0, none⟩ = some (.string ⟨SB.toArray⟩) ∧ w1.cell? ⟨q, 1, none⟩ = some (.int .i64 f) := ⟨(HB.out.cell (p := ⟨q, 0, none⟩) HQ.out).trans c0, (HB.out.cell (p := ⟨q, 1, none⟩) HQ.out).trans c1⟩; obtain ⟨s7, w7⟩ := set7w hx (.string ⟨me.toArray⟩) (.string ⟨ta.toArray⟩) (.int .i64 0) (.int .i64 (ver : Nat)) (.slice hd H.length hc) (.string ⟨bo.toArray⟩) (.bool la); have hqn : ¬ q = wr.heap.size := (by have := HQ.out; omega); have gi : (((((((w1.setCell ⟨wr.heap.size, 0, none⟩ (.string ⟨me.toArray⟩)).setCell ⟨wr.heap.size, 1, none⟩ (.string ⟨ta.toArray⟩)).setCell ⟨wr.heap.size, 2, none⟩ (.int .i64 0)).setCell ⟨wr.heap.size, 3, none⟩ (.int .i64 (ver : Nat))).setCell ⟨wr.heap.size, 4, none⟩ (.slice hd H.length hc)).setCell ⟨wr.heap.size, 5, none⟩ (.string ⟨bo.toArray⟩)).setCell ⟨wr.heap.size, 6, none⟩ (.bool la)).cell? ⟨q, 0, none⟩ = some (.string ⟨SB.toArray⟩) ∧ (((((((w1.setCell ⟨wr.heap.size, 0, none⟩ (.string ⟨me.toArray⟩)).setCell ⟨wr.heap.size, 1, none⟩ (.string ⟨ta.toArray⟩)).setCell ⟨wr.heap.size, 2, none⟩ (.int .i64 0)).setCell ⟨wr.heap.size, 3, none⟩ (.int .i64 (ver : Nat))).setCell ⟨wr.heap.size, 4, none⟩ (.slice hd H.length hc)).setCell ⟨wr.heap.size, 5, none⟩ (.string ⟨bo.toArray⟩)).setCell ⟨wr.heap.size, 6, none⟩ (.bool la)).cell? ⟨q, 1, none⟩ = some (.int .i64 f) := ⟨(World.cell?_of_block (a := ⟨q, 0, none⟩) (w7.block q hqw hqn)).trans gg.1, (World.cell?_of_block (a := ⟨q, 1, none⟩) (w7.block q hqw hqn)).trans gg.2⟩; have HS7 : Hid _ := s7; have HW7 : Hid _ := w7; clear hx s7 w7 hqw hqn)
              | fail)
            · go_wp2_with (fail)
              go_meet
              case rel => exact ⟨_, hd, hc, rfl, rfl, rfl, rfl, rfl, ⟨HB.out.size, HB.out.alloc HB.out.size _, heap_alloc_new w1 _, row_keep HRW.out fun k e => ((Below.refl w1.heap.size w1).alloc (Nat.le_refl _) _).block k (HRW.out.lt k e).2⟩, HDI⟩
            · go_wp2_with (fail)
              go_meet
              case rel => exact ⟨_, hd, hc, rfl, rfl, rfl, rfl, rfl, ⟨Nat.le_refl _, Wo.toBelow HB.out HW7.out (fun k e => by omega) HB.out.size, HS7.out, row_baseR (row_keep HRW.out fun k e => HW7.out.block k (HRW.out.lt k e).2 (by have := (HRW.out.lt k e).1; simp at this; omega)) (fun k e => by have := (HRW.out.lt k e).1; simp at this; omega)⟩, HDI⟩
          case rest =>
            obtain ⟨gm, hd, hc, rfl, rfl, rfl, rfl, rfl, HM, HDI⟩ := hcut
            have HN2 : Hid (Tryz.FIn w wc q SB rs m' (.slice ad n cap) os f false) := Tryz.FIn.below HIN.out HM.out.2.1
            have hm := HM.out.2.2.1
            have m0 : wc.cell? ⟨gm, 0, none⟩ = some (.string ⟨me.toArray⟩) := cell_of_row _ _ 0 _ _ _ hm
            have m1 : wc.cell? ⟨gm, 1, none⟩ = some (.string ⟨ta.toArray⟩) := cell_of_row _ _ 1 _ _ _ hm
            have m4 : wc.cell? ⟨gm, 4, none⟩ = some (.slice hd H.length hc) := cell_of_row _ _ 4 _ _ _ hm
            have m5 : wc.cell? ⟨gm, 5, none⟩ = some (.string ⟨bo.toArray⟩) := cell_of_row _ _ 5 _ _ _ hm
            have hb3 := bytesW_below wc 5 ⟨bo.toArray⟩
            have hcv := Tryz.conv_textF bo wc
            have hO := Og.start wc 5 ⟨bo.toArray⟩ (Nat.le_refl _)
            rw [text_size bo] at hO
            obtain ⟨gb, hgb⟩ : ∃ g, wc.heap.size = g := ⟨_, rfl⟩
            obtain ⟨cb, hcb⟩ : ∃ c, grownCap wc bo.length 0 5 = c := ⟨_, rfl⟩
            obtain ⟨W2, hW2⟩ : ∃ W2, Lib.bytesWorld wc 5 ⟨bo.toArray⟩ = W2 := ⟨_, rfl⟩
            rw [hW2] at hb3
            rw [hW2, hgb, hcb] at hcv hO
            have HB3 : Hid (Below wc.heap.size wc W2) := hb3
            have HGB : Hid (wc.heap.size = gb) := hgb
            have hm2 := (hb3.block gm (block_lt hm)).trans hm
            have m6 : W2.cell? ⟨gm, 6, none⟩ = some (.bool la) := cell_of_row _ _ 6 _ _ _ hm2
            have HM2 : Hid (W2.heap[gm]? = some (.cells #[.string ⟨me.toArray⟩, .string ⟨ta.toArray⟩, .int .i64 0, .int .i64 (ver : Nat), .slice hd H.length hc, .string ⟨bo.toArray⟩, .bool la] 99 (0, 0))) := hm2
            have HN3 : Hid (Tryz.FIn w W2 q SB rs m' (.slice ad n cap) os f false) := Tryz.FIn.below HN2.out hb3
            have HVL : Hid (∀ x, (Value.slice ad n cap).ownBlock = some x → w.heap.size ≤ x ∧ x < wr.heap.size) := fun x e => Tryz.RlW.lt HIN.out.rl x e
            have HR4 : Hid (Tryz.RlW W2 (fun k => w.heap.size ≤ k) (.slice ad n cap) os) := HN3.out.rl
            have HWS : Hid (w.heap.size ≤ wr.heap.size ∧ wr.heap.size ≤ wc.heap.size) := ⟨HIN.out.wo.size, HM.out.2.1.size⟩
            have HP4 : Hid (Tryz.PrW W2 (fun k => w.heap.size ≤ k) (.slice ad n cap) ⟨⟨me, ta, H, bo, la⟩, hd, hc, some ⟨gb, 0, none⟩, cb⟩) := (by
              have hrow := HM.out.2.2.2
              have h1 := HWS.out
              have h2 := HGB.out
              refine ⟨?_, ?_, fun x e => ?_, fun x e => ?_⟩
              · exact (Hs.ofRow hrow).below hb3
              · exact hO.bs
              · have h3 := hrow.lt x e
                refine ⟨by omega, fun e2 => ?_, Nat.lt_of_lt_of_le h3.2 hb3.size⟩
                have := HVL.out x e2
                omega
              · have h3 := hO.lt x e
                refine ⟨by omega, fun e2 => ?_, h3.2⟩
                have := HVL.out x e2
                omega)
            have HLEN : Hid (os.length + 1 ≤ 1000000000000) := (by
              have h1 := HIN.out.all.1
              have h2 := HRL.out
              have h3 := congrArg List.length h1
              rw [List.length_append] at h3
              show _ ≤ _
              omega)
            have HPN : Hid (∀ x, W2.heap.size ≤ x → w.heap.size ≤ x) := fun x e => (by have h1 := HWS.out; have h2 := hb3.size; omega)
            have HQ2 : Hid (q < w.heap.size) := hq
            clear hW2 hcb hgb hb3 hO hm hm2 c0 c1 c2 c3 c4 HN2
            go_upto_region 12 with (first
              | (at_builtin; refine Tryz.appReqW rfl _ _ rfl HR4.out ⟨⟨me, ta, H, bo, la⟩, hd, hc, some ⟨gb, 0, none⟩, cb⟩ HP4.out rfl rfl (by simp) HLEN.out (fun _ e => e) HPN.out ?_; intro g5 n5 cap5 w5 hR5 hw5; have HR5 : Hid (Tryz.RlW w5 (fun k => w.heap.size ≤ k) (.slice (some ⟨g5, 0, none⟩) n5 cap5) (os ++ [⟨me, ta, H, bo, la⟩])) := hR5; have HW5 : Hid (Wo (fun k => (Value.slice ad n cap).ownBlock = some k) W2 w5) := hw5; clear hR5 hw5)
              | fail)
            have hdq : Tryz.Dp w5 q SB f 0 0 false := (HW5.out.block q (block_lt HN3.out.dp) (fun e => by have h1 := HVL.out q e; have h2 := HQ2.out; omega)).trans HN3.out.dp
            have hmm : w5.heap[gm]? = some (.cells #[.string ⟨me.toArray⟩, .string ⟨ta.toArray⟩, .int .i64 0, .int .i64 (ver : Nat), .slice hd H.length hc, .string ⟨bo.toArray⟩, .bool la] 99 (0, 0)) := (HW5.out.block gm (block_lt HM2.out) (fun e => by have h1 := HVL.out gm e; have h2 := HM.out.1; omega)).trans HM2.out
            have hgq : ¬ gm = q := by have h1 := HM.out.1; have h2 := HQ2.out; have h3 := HWS.out.1; omega
            have d1 : w5.cell? ⟨q, 1, none⟩ = some (.int .i64 f) := cell_of_row _ _ 1 _ _ _ hdq
            have f1 := frozen_of_row _ _ 1 _ _ hdq
            have hs1 := heap_setCell_same w5 q 1 _ _ (.int .i64 (k : Nat)) hdq
            have hw1 : Wo (fun x => x = q) w5 (w5.setCell ⟨q, 1, none⟩ (.int .i64 (k : Nat))) := (Wo.refl (fun x => x = q) w5).setCell q 1 _ (.inl rfl)
            have d4 : (w5.setCell ⟨q, 1, none⟩ (.int .i64 (k : Nat))).cell? ⟨q, 4, none⟩ = some (.bool false) := cell_of_row _ _ 4 _ _ _ hs1
            have f4 := frozen_of_row _ _ 4 _ _ hs1
            have d6 : (w5.setCell ⟨q, 1, none⟩ (.int .i64 (k : Nat))).cell? ⟨gm, 6, none⟩ = some (.bool la) := cell_of_row _ _ 6 _ _ _ ((hw1.block gm (block_lt hmm) hgq).trans hmm)
            have hs2 := heap_setCell_same _ q 4 _ _ (.bool la) hs1
            have HEND : Hid (Tryz.FIn w ((w5.setCell ⟨q, 1, none⟩ (.int .i64 (k : Nat))).setCell ⟨q, 4, none⟩ (.bool la)) q SB rs m' (.slice (some ⟨g5, 0, none⟩) n5 cap5) (os ++ [⟨me, ta, H, bo, la⟩]) k la) := (by
              have hw2 : Wo (fun x => x = q) w5 ((w5.setCell ⟨q, 1, none⟩ (.int .i64 (k : Nat))).setCell ⟨q, 4, none⟩ (.bool la)) := hw1.setCell q 4 _ (.inl rfl)
              obtain ⟨g1, g2, g3⟩ := HDI.out
              obtain ⟨h4, h5⟩ := HN3.out.all
              have h4 : os ++ (fd (newReq f) (SB.drop f)).1 = rs := h4
              have h5 : (fd (newReq f) (SB.drop f)).2 = m' := h5
              rw [g1] at h4 h5
              refine ⟨Tryz.RlW.keep HR5.out hw2.size fun x hx e => ⟨hw2.block x hx (by have := HQ2.out; omega), e⟩, hs2, g3, ⟨?_, h5⟩, ?_⟩
              · rw [List.append_assoc]; exact h4
              · exact (HN3.out.wo.step (fun x e => .inr (HVL.out x e).1) HW5.out).trans hw2)
            have HMS : Hid (leftN SB.length ((w5.setCell ⟨q, 1, none⟩ (.int .i64 (k : Nat))).setCell ⟨q, 4, none⟩ (.bool la)) q < leftN SB.length wr q) := (by
              obtain ⟨_, g2, g3⟩ := HDI.out
              have e1 : ((w5.setCell ⟨q, 1, none⟩ (.int .i64 (k : Nat))).setCell ⟨q, 4, none⟩ (.bool la)).cell? ⟨q, 1, none⟩ = some (.int .i64 (k : Nat)) := cell_of_row _ _ 1 _ _ _ hs2
              show _ < _
              rw [HLF.out, leftN_of e1]
              omega)
            clear HIN HM HN3 HR4 HP4 HR5 HW5 HDI hdq hmm hgq hs1 hw1 hs2 m0 m1 m4 m5 m6 hcv HM2
            go_wp2
            go_roundw
            case rel => exact ⟨_, _, _, _, _, _, rfl, HEND⟩
            case measure => exact HMS.out
end Go.Proofs
