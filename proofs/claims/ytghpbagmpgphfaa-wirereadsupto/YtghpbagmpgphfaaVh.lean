/-
  A READER: End, Err, NewReader, count.
-/
import Derived.Test.YtghpbagmpgphfaaVg
namespace Go.Proofs
open Go.RowKit Go.Wi
set_option maxHeartbeats 1000000 in
theorem Try.end_any {w : World} {own : Nat → Prop} {x : Nat} {s : Rs} (h : Try.Rd w own x s) :
    Calls Try.prog 18 #[.pointer (some ⟨x, 0, none⟩)] w fun e w' => e = .returned (.bool s.fin) ∧ ∃ n, w' = w.drewN n := by
  obtain ⟨V, fv, hx, hbs, hV, hVo, hfv⟩ := h.ex
  have c2 := cell_of_row w x 2 _ _ _ hx
  have hl := Try.left_any h
  have hin := h.inn
  unfold Rs.In at hin
  clear hx hbs h
  rcases hfv with ⟨hf, rfl⟩ | ⟨b, y, hf, rfl, hy, hyx, hyo⟩
  · have he : s.fin = decide (s.t.length - s.p = 0) := by
      unfold Rs.fin
      rw [hf]
      by_cases e : s.p = s.t.length
      · simp [e]
      · rw [decide_eq_false (by omega)]; simp [e]
    rw [he]
    generalize s.t.length - s.p = n at hl
    clear he hf hin
    go_enter Try.func18, Try.ntmps18
    by_cases h0 : n = 0
    · subst h0
      go_wp2_with (first | (go_at_call 32; refine hl.mono ?_; clear hl; rintro e w2 ⟨rfl, m, rfl⟩) | fail)
      go_ret
      exact ⟨rfl, _, rfl⟩
    · have q0 : ¬ (n : Int) = 0 := by omega
      go_wp2_with (first | (go_at_call 32; refine hl.mono ?_; clear hl; rintro e w2 ⟨rfl, m, rfl⟩) | fail)
      go_ret
      exact ⟨by simp [h0], _, rfl⟩
  · have he : s.fin = false := by unfold Rs.fin; rw [hf]; rfl
    rw [he]
    clear he hf hy hl
    go_enter Try.func18, Try.ntmps18
    go_wp2
    go_ret
    exact ⟨rfl, 0, rfl⟩
set_option maxHeartbeats 1000000 in
theorem Try.err_none {w : World} {own : Nat → Prop} {x : Nat} {s : Rs} (h : Try.Rd w own x s) (hf : s.f = none) :
    Calls Try.prog 9 #[.pointer (some ⟨x, 0, none⟩)] w fun e w' => e = .returned .nilIface ∧ w' = w := by
  obtain ⟨V, fv, hx, hbs, hV, hVo, hfv⟩ := h.ex
  have c2 := cell_of_row w x 2 _ _ _ hx
  clear hx hbs h
  rcases hfv with ⟨_, rfl⟩ | ⟨b, y, hf', -⟩
  · clear hf
    go_enter Try.func9, Try.ntmps9
    go_wp2
    go_ret
    exact ⟨rfl, rfl⟩
  · rw [hf] at hf'; cases hf'
set_option maxHeartbeats 1000000 in
theorem Try.err_some {w : World} {own : Nat → Prop} {x : Nat} {s : Rs} (h : Try.Rd w own x s) {a : Nat} (hf : s.f = some a) :
    Calls Try.prog 9 #[.pointer (some ⟨x, 0, none⟩)] w fun e w' => ∃ z, e = .returned (.iface 43 (.pointer (some ⟨z, 0, none⟩))) ∧ w.heap.size ≤ z ∧ w'.heap[z]? = some (.cells #[.int .i64 a, .int .i64 60] 46 (0, 0)) ∧ Below w.heap.size w w' := by
  obtain ⟨V, fv, hx, hbs, hV, hVo, hfv⟩ := h.ex
  have c2 := cell_of_row w x 2 _ _ _ hx
  clear hx hbs h
  rcases hfv with ⟨hf', _⟩ | ⟨b, y, hf', rfl, hy, hyx, hyo⟩
  · rw [hf] at hf'; cases hf'
  · rw [hf] at hf'
    cases hf'
    clear hf
    have d0 := cell_of_row w y 0 _ _ _ hy
    have d1 := cell_of_row w y 1 _ _ _ hy
    go_enter Try.func9, Try.ntmps9
    go_wp2
    go_ret
    exact ⟨w.heap.size, rfl, Nat.le_refl _, heap_alloc_new w _, (Below.refl _ w).alloc (Nat.le_refl _) _⟩
set_option maxHeartbeats 1000000 in
theorem Try.newReader_any {w : World} {v : Value} {l : List UInt8} (h : Bs w v l) (hlen : l.length ≤ 140737488355328) :
    Calls Try.prog 5 #[v] w fun e w' => ∃ x, e = .returned (.pointer (some ⟨x, 0, none⟩)) ∧ Try.Rd w' (fun k => w.heap.size ≤ k ∧ k < w'.heap.size) x ⟨l, 0, none⟩ ∧ Below w.heap.size w w' := by
  have Hlen : Hid (l.length ≤ 140737488355328) := hlen
  clear hlen
  go_enter Try.func5, Try.ntmps5
  go_wp2_with (first | (at_builtin; refine Try.appCopy rfl _ _ rfl h rfl rfl Hlen.out ?_; intro ad1 cap1 w1 hown hb) | fail)
  go_ret
  have hsz := hb.size
  have hb2 : Below w1.heap.size w1 (w1.alloc (.cells #[.slice ad1 l.length cap1, .int .i64 0, .pointer none] 59)) := (Below.refl _ w1).alloc (Nat.le_refl _) _
  have hs2 : (w1.alloc (.cells #[.slice ad1 l.length cap1, .int .i64 0, .pointer none] 59)).heap.size = w1.heap.size + 1 := by simp
  refine ⟨w1.heap.size, rfl, ⟨⟨_, _, heap_alloc_new w1 _, (Bs.ofRow hown).below hb2 fun k e => (hown.lt k e).2, ?_, ?_, .inl ⟨rfl, rfl⟩⟩, ⟨hsz, by rw [hs2]; omega⟩, fun k e => e.2, Nat.zero_le _, Hlen.out⟩, hb.trans (hb2.mono hsz)⟩
  · intro e
    have := (hown.lt _ e).2
    omega
  · intro k e
    have := hown.lt k e
    exact ⟨this.1, by rw [hs2]; omega⟩
end Go.Proofs
