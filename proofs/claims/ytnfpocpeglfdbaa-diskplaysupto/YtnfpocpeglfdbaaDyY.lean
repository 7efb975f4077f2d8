/-
  DiskPlays: the walk.
-/
import Derived.Test.YtnfpocpeglfdbaaDyW
import Derived.Deep.DeepCutAuto
namespace Go.Proofs
open Go.RowKit Go.Wi
/-- The world of the script, as it is made. -/
theorem Try.Zw.start {B : Nat} {w0 w w1 : World} {g : Nat} {O : Obj} (h : Below B w0 w) (hg : w.heap[g]? = some O) (hB : B ≤ g) (h1 : w1 = w.alloc (.cells #[.slice none 0 0, .slice none 0 0] 28)) :
    Try.Zw B w0 w1 w.heap.size [(g, O)] [] 0 Dk.r0 Dk.b0 := by
  have hb1 : Below w.heap.size w w1 := by rw [h1]; exact (Below.refl _ w).alloc (Nat.le_refl _) _
  have hgl := Dk.block_lt hg
  have hn : w1.heap[w.heap.size]? = some (.cells #[.slice none 0 0, .slice none 0 0] 28 (0, 0)) := by rw [h1]; exact heap_alloc_new w _
  have hsz : w.heap.size < w1.heap.size := Dk.block_lt hn
  refine ⟨⟨fun k => if k = w.heap.size then 1 else if k = g then 9 else 0, .slice none 0 0, .slice none 0 0, [], ⟨fun k e => ?_, hn, by simp, World.ownsRow_nil _ _ _ _, fun k e => (by cases e), ?_, fun j hj => ⟨World.ownsRow_nil _ _ _ _, fun k e => (by cases e)⟩, fun i p hp => (by simp at hp), fun x hx => ?_⟩, rfl, fun x hx => (by cases hx)⟩, h.trans (hb1.mono (by omega))⟩
  · by_cases e1 : k = w.heap.size
    · omega
    · by_cases e2 : k = g
      · omega
      · simp only [if_neg e1, if_neg e2] at e
        exact absurd rfl e
  · refine (Try.Hs.none w1).more (fun k e => e.elim) fun k e => ?_
    by_cases e1 : k = w.heap.size
    · omega
    · by_cases e2 : k = g
      · omega
      · simp only [if_neg e1, if_neg e2] at e
        omega
  · rcases List.mem_singleton.1 hx with rfl
    refine ⟨(hb1.block g hgl).trans hg, ?_⟩
    simp only
    rw [if_neg (by omega), if_pos trivial]
set_option maxRecDepth 4000 in
set_option maxHeartbeats 8000000 in
theorem Try.diskPlaysWalk (v : Value) (l : List Dk.Opn) (w : World) (hI : Dk.OpsIn w v l) (hl : l.length ≤ 200000) :
    Calls Try.prog 3 #[v] w fun e w' => e = .returned (.bool true) ∧ Below w.heap.size w w' := by
  have h0 := Try.example_any w
  obtain ⟨W1, hW1⟩ : ∃ W1 : World, W1 = w.alloc (.cells (Dk.ocs Dk.exOps).toArray 33) := ⟨_, rfl⟩
  rw [← hW1] at h0
  have hb1 : Below w.heap.size w W1 := by rw [hW1]; exact (Below.refl _ w).alloc (Nat.le_refl _) _
  have hx1 : W1.heap[w.heap.size]? = some (.cells (Dk.ocs Dk.exOps).toArray 33 (0, 0)) := by rw [hW1]; exact heap_alloc_new w _
  have HI1 : Hid (Dk.OpsIn W1 v l) := ⟨by
    obtain ⟨ad, cap, e1, e2, e3⟩ := hI.ex
    refine ⟨ad, cap, e1, e2, e3.imp id fun ⟨b, off, a1, a2, a3⟩ => ⟨b, off, a1, Nat.lt_of_lt_of_le a2 hb1.size, fun j u hu => (hb1.cell (p := ⟨b, off + j, none⟩) a2).trans (a3 j u hu)⟩⟩, hI.fits⟩
  have HF : Hid (∀ o ∈ Dk.exOps ++ l, o.Fits) := fun o ho => (List.mem_append.1 ho).elim (Dk.exFits o) (hI.fits o)
  have Hl : Hid (l.length ≤ 200000) := hl
  have Hb1 : Hid (Below w.heap.size w W1) := hb1
  obtain ⟨M, hM⟩ : ∃ M, M = 21 + l.length := ⟨_, rfl⟩
  have HMl : Hid (M = 21 + l.length) := hM
  have HME : Hid ((Dk.exOps ++ l).length = M) := by show _ = _; rw [List.length_append, hM]; rfl
  clear hI hl hb1 hW1
  go_enter Try.func3, Try.ntmps3
  go_upto_region 2 with (first
    | (go_at_call 4; refine h0.mono ?_; clear h0; rintro e w2 ⟨rfl, e2⟩; have e3 := e2.symm; clear e2; subst e3)
    | fail)
  go_upto_region 3 with (first
    | (at_builtin; refine Try.appOps rfl _ _ rfl hx1 (n := 21) rfl (by have := Hl.out; omega) HI1.out rfl rfl ?_; intro g cap w3 hrow3 hb3)
    | fail)
  rw [← HMl.out] at hrow3
  have hgB : w.heap.size ≤ g := (hrow3.lt g rfl).1
  obtain ⟨cur, hgc⟩ : ∃ cur, w3.heap[g]? = some (.cells cur 33 (0, 0)) := by
    rcases hrow3.2 with ⟨e, -⟩ | ⟨g2, c2, cur, e, -, h3, -⟩
    · cases e
    · cases e; exact ⟨cur, h3⟩
  obtain ⟨W4, hW4⟩ : ∃ W4 : World, W4 = w3.alloc (.cells #[.slice none 0 0, .slice none 0 0] 28) := ⟨_, rfl⟩
  have HZ : Hid (Try.Zw w.heap.size w W4 w3.heap.size [(g, .cells cur 33 (0, 0))] [] 0 Dk.r0 Dk.b0) := Try.Zw.start (Hb1.out.trans hb3) hgc hgB hW4
  have HRow : Hid (∀ W : World, W.heap[g]? = some (.cells cur 33 (0, 0)) → W.ownsRow w.heap.size 33 6 (.slice (some ⟨g, 0, none⟩) M cap) M (Dk.ocs (Dk.exOps ++ l))) := fun W hW => Dk.row_heap hrow3 fun k e => by
    cases e
    exact hW.trans hgc.symm
  have hcap : M ≤ cap := by
    obtain ⟨ad, c2, e, -, -, h3⟩ := Dk.rowForm hrow3
    cases e; exact h3
  clear hrow3 hgB hgc hb3 Hb1 hx1 HI1
  go_upto_region 4 with fail
  rw [← hW4]
  clear hW4
  generalize w3.heap.size = wb at *
  generalize (Obj.cells cur 33 (0, 0)) = O at *
  go_upto_region 5 with fail
  have hMb : M ≤ 1000000 := by have := HMl.out; have := Hl.out; omega
  go_loopw [5, 6, 7] (fun i _ _ wr => ∃ (k : Nat) (ps : List Dk.Pq) (H : Nat), k ≤ M ∧ i = .int .i64 (k : Int) ∧ Try.Zw w.heap.size w wr wb [(g, O)] ps H Dk.r0 Dk.b0 ∧ Dk.Pin k ps ∧ H ≤ 480 * k) (fun i _ _ _ => M - (intOf i).toNat)
  case atStart => exact ⟨0, [], 0, by omega, rfl, HZ.out, ⟨by simp, fun i p hp => by simp at hp⟩, by omega⟩
  case round =>
    obtain ⟨k, ps, H, hk, rfl, hz, hP, hH⟩ := hrel
    clear HZ
    by_cases hkM : k < M
    · have q0 : (k : Int) < (M : Int) := by omega
      have q2 : (0 : Int) ≤ (k : Int) := by omega
      have hrw := HRow.out wr (hz.at (.head _))
      obtain ⟨o, ho⟩ : ∃ o, (Dk.exOps ++ l)[k]? = some o := ⟨_, List.getElem?_eq_getElem (by rw [HME.out]; exact hkM)⟩
      have hF := HF.out o (List.mem_of_getElem? ho)
      have hc := fun (j : Nat) (u : Value) (hu : o.cs[j]? = some u) => hrw.cells (g := g) rfl _ _ (Dk.ocs_at _ _ _ ho j u hu)
      have c0 := hc 0 _ rfl
      have c1 := hc 1 _ rfl
      have c2 := hc 2 _ rfl
      have c3 := hc 3 _ rfl
      have c4 := hc 4 _ rfl
      have c5 := hc 5 _ rfl
      rw [Addr.add_mid, Nat.zero_add] at c0 c1 c2 c3 c4 c5
      rw [Nat.add_zero] at c0
      clear hc hrw ho
      have h1 := Try.step_any hz hP (by have := HMl.out; have := Hl.out; omega) (by have := HMl.out; have := Hl.out; omega) o.K o.N o.I o.b o.ck o.ct hF.b hF.N hF.I
      have HH : Hid (H ≤ 480 * k) := hH
      generalize o.K = oK at *
      generalize o.N = oN at *
      generalize o.I = oI at *
      generalize o.b = ob at *
      generalize o.ck = ock at *
      generalize o.ct = oct at *
      clear hF hz hP hH
      go_upto_region 8 with (first
        | (go_at_call 5; refine h1.mono ?_; clear h1; rintro e w5 ⟨rfl, ps', H', hz5, hP5, hH5⟩)
        | fail)
      have h2 := hz5.looks (by have := HMl.out; have := Hl.out; have := HH.out; omega)
      have HP5 : Hid (Dk.Pin (k + 1) ps' ∧ H' ≤ 480 * (k + 1)) := ⟨hP5, by have := HH.out; omega⟩
      clear c0 c1 c2 c3 c4 c5 hz5 hP5 hH5
      go_wp2_with (first
        | (go_at_call 6; refine h2.mono ?_; clear h2; rintro e w6 ⟨rfl, hz6⟩)
        | fail)
      go_roundw
      case rel => exact ⟨k + 1, ps', H', by omega, by go_num, hz6, HP5.out⟩
      case measure => simp [intOf]; omega
    · have q0 : ¬ (k : Int) < (M : Int) := by omega
      clear hP hH
      go_wp2_with fail
      go_ret
      exact ⟨by simp, hz.bel⟩
end Go.Proofs
