/-
  What lists holds between two of its calls; comes; looks.
-/
import Derived.Test.YtghpbagmpgphfaaWqN
import Derived.Deep.QuietTactic
import Derived.Deep.DeepCutAuto
namespace Go.Proofs
open Go.RowKit Go.Wi
theorem Try.Kp.more {w : World} {own own2 : Nat → Prop} {b : Nat} {c0 c1 c2 c3 lv : Value} {hs : List Wi.Lh} {mv : Value} {ms : List Int} {V : Value} {N : Nat} {m : Int} (h : Try.Kp w own b c0 c1 c2 c3 lv hs mv ms V N m) (h1 : ∀ k, own k → own2 k) (h2 : ∀ k, own2 k → k < w.heap.size) : Try.Kp w own2 b c0 c1 c2 c3 lv hs mv ms V N m :=
  ⟨h.bl, h.lr, h.mr, h.vr, h.each, h1 b h.ob, fun k e => ⟨h1 k (h.ol k e).1, (h.ol k e).2⟩, fun k e => ⟨h1 k (h.om k e).1, (h.om k e).2⟩, fun k e => ⟨h1 k (h.ov k e).1, (h.ov k e).2⟩, fun x hx k e => ⟨h1 k (h.oe x hx k e).1, (h.oe x hx k e).2⟩, h.pre, h2⟩
/-- What lists holds between two of its calls: N lists are kept, one waits, and what it says. -/
structure Try.KL (w : World) (own : Nat → Prop) (b N : Nat) : Prop where
  ex : ∃ lv hs mv wv ws qv, Try.Kp w own b lv mv wv qv lv hs mv (hs.map fun x => x.m) (.slice none 0 0) 0 0 ∧ hs.length = N ∧ w.ownsRow 0 2 1 wv ws.length (Wi.ics ws) ∧ (∀ k, wv.ownBlock = some k → own k ∧ k ≠ b ∧ lv.ownBlock ≠ some k ∧ mv.ownBlock ≠ some k ∧ ∀ x ∈ hs, x.v.ownBlock ≠ some k) ∧ ws.length ≤ 1000000000000 ∧ Wi.Ns w qv ws ∧ (∀ k, qv.ownBlock = some k → own k ∧ k ≠ b)
theorem Try.KL.lt {w : World} {own : Nat → Prop} {b N : Nat} (h : Try.KL w own b N) : ∀ k, own k → k < w.heap.size := by
  obtain ⟨lv, hs, mv, wv, ws, qv, hK, -⟩ := h.ex
  exact hK.lt
theorem Try.KL.keep {w w' : World} {own : Nat → Prop} {b N : Nat} (h : Try.KL w own b N) (hk : ∀ k, own k → w'.heap[k]? = w.heap[k]?) (hsz : w.heap.size ≤ w'.heap.size) : Try.KL w' own b N := by
  obtain ⟨lv, hs, mv, wv, ws, qv, hK, h1, h2, h3, h4, h5, h6⟩ := h.ex
  exact ⟨lv, hs, mv, wv, ws, qv, hK.keep hk hsz, h1, Wi.row_heap h2 fun k e => hk k (h3 k e).1, h3, h4, h5.keep fun k e => hk k (h6 k e).1, h6⟩
theorem Try.KL.looks {w : World} {own : Nat → Prop} {b N : Nat} (h : Try.KL w own b N) (hN : N ≤ 1000000) :
    Calls Try.prog 28 #[.pointer (some ⟨b, 0, .none⟩)] w fun e w' => e = .returned (.bool true) ∧ ∃ n, w' = w.drewN n := by
  obtain ⟨lv, hs, mv, wv, ws, qv, hK, h1, -⟩ := h.ex
  have h2 := hK.mr
  rw [List.length_map] at h2
  exact Try.looksL_any ⟨⟨lv, mv, wv, qv, hK.bl, hK.lr, h2⟩, hK.each⟩ (by omega)
set_option maxRecDepth 4000 in
set_option maxHeartbeats 4000000 in
theorem Try.comes_any {w : World} {own : Nat → Prop} {b N : Nat} (h : Try.KL w own b N) {B : Nat} {ad : Option Addr} {cap : Nat} {ls : List Int} (hr : w.ownsRow B 2 1 (.slice ad ls.length cap) ls.length (Wi.ics ls)) (hd : ∀ k, (Value.slice ad ls.length cap).ownBlock = some k → ¬ own k) (hN : N ≤ 100000) (hn : ls.length ≤ 1000000000000) :
    Calls Try.prog 27 #[.pointer (some ⟨b, 0, none⟩), .slice ad ls.length cap] w fun e w' => e = .returned (.bool true) ∧ ∃ own', Try.KL w' own' b (N + 4) ∧ (∀ k, own' k → own k ∨ (Value.slice ad ls.length cap).ownBlock = some k ∨ w.heap.size ≤ k) ∧ Wo own w w' := by
  obtain ⟨lv, hs, mv, wv, ws, qv, hK, hl, hw, hwd, hwn, hq, hqo⟩ := h.ex
  have hnil : ad = none → cap = 0 ∧ ls = [] := by
    obtain ⟨ad', cap', e, h2, -⟩ := Wi.rowForm hr
    cases e
    intro e
    exact ⟨(h2 e).1, List.eq_nil_of_length_eq_zero (h2 e).2⟩
  have HK : Hid (Try.Kp w own b lv mv wv qv lv hs mv (hs.map fun x => x.m) (.slice none 0 0) 0 0) := hK
  have Hl : Hid (hs.length = N ∧ N ≤ 100000 ∧ ws.length ≤ 1000000000000) := ⟨hl, hN, hwn⟩
  have Hw : Hid (w.ownsRow 0 2 1 wv ws.length (Wi.ics ws)) := hw
  have Hwd : Hid (∀ k, wv.ownBlock = some k → own k ∧ k ≠ b ∧ lv.ownBlock ≠ some k ∧ mv.ownBlock ≠ some k ∧ ∀ x ∈ hs, x.v.ownBlock ≠ some k) := hwd
  have Hq : Hid (Wi.Ns w qv ws) := hq
  have Hqo : Hid (∀ k, qv.ownBlock = some k → own k ∧ k ≠ b) := hqo
  have Hd : Hid (∀ k, (Value.slice ad ls.length cap).ownBlock = some k → ¬ own k) := hd
  have Hr : Hid (w.ownsRow B 2 1 (.slice ad ls.length cap) ls.length (Wi.ics ls)) := hr
  clear h hK hl hN hwn hw hwd hq hqo hd
  go_enter Try.func27, Try.ntmps27
  go_upto_region 3 with (first
    | (at_builtin; refine Try.appInts rfl _ _ rfl (World.ownsRow_nil _ w.heap.size _ _) hr hnil rfl rfl (by omega) (Nat.le_refl _) ?_; intro ad1 cap1 w1 hown1 hb1)
    | fail)
  have hlt1 : ∀ k, own k → w1.heap[k]? = w.heap[k]? := fun k e => hb1.block k (HK.out.lt k e)
  have hK1 := HK.out.keep hlt1 hb1.size
  have hw1 := Wi.row_heap Hw.out fun k e => hlt1 k (Hwd.out k e).1
  have hq1 := Hq.out.keep fun k e => hlt1 k (Hqo.out k e).1
  have hs1 : ∀ q, Calls Try.prog 39 #[wv, qv] (w1.drewN q) fun e w' => e = .returned (.bool true) ∧ ∃ q', w' = (w1.drewN q).drewN q' := fun q => by
    have h9 := Try.sameNumbers_any ((Try.Ns_row hw1 (by have := Hl.out.2.2; omega)).drewN q) (hq1.drewN q)
    simpa using h9
  have k2 : w1.cell? ⟨b, 2, none⟩ = some wv := cell_of_row w1 b 2 _ _ _ hK1.bl
  have k3 : w1.cell? ⟨b, 3, none⟩ = some qv := cell_of_row w1 b 3 _ _ _ hK1.bl
  have hkeep : ∀ q, Calls Try.prog 40 #[.pointer (some ⟨b, 0, none⟩), wv] (w1.drewN q) fun e w' => (∃ v, e = .returned v) ∧ ∃ own' lv' hs' mv', Try.Kp w' own' b lv' mv' wv qv lv' hs' mv' (hs'.map fun x => x.m) (.slice none 0 0) 0 0 ∧ hs'.length = hs.length + 4 ∧ (∀ k, own' k → own k ∨ (w1.drewN q).heap.size ≤ k) ∧ Wo own (w1.drewN q) w' := fun q =>
    Try.keepL_any (hK1.keep (fun _ _ => rfl) (Nat.le_refl _)) (Wi.row_heap hw1 fun _ _ => rfl) Hwd.out (by have := Hl.out; omega) Hl.out.2.2
  have HK1 : Hid (Try.Kp w1 own b lv mv wv qv lv hs mv (hs.map fun x => x.m) (.slice none 0 0) 0 0) := hK1
  have Hown1 : Hid (w1.ownsRow w.heap.size 2 1 (.slice ad1 ls.length cap1) ls.length (Wi.ics ls)) := hown1
  have Hb1 : Hid (Below w.heap.size w w1) := hb1
  clear hK1 hw1 hq1 hlt1 hown1 hb1 hr hnil
  go_quiet (first | (go_at_call 39; exact Calls.quiet_of (hs1 _)))
  go_upto_region 5 with (first
    | (go_at_call 40; refine (hkeep _).mono ?_; clear hkeep; rintro e w5 ⟨⟨v5, rfl⟩, own', lv', hs', mv', hK5, hl5, ho5, hwo5⟩)
    | fail)
  have HW5 : Hid (Wo own w1 w5) := ((Wo.refl own w1).drewN _).trans hwo5
  have Ho5 : Hid (∀ k, own' k → own k ∨ w1.heap.size ≤ k) := ho5
  have Hl5 : Hid (hs'.length = hs.length + 4) := hl5
  have hV5 : ∀ k, k < w.heap.size → ¬ own k → w5.heap[k]? = w.heap[k]? := fun k h1 h2 => (HW5.out.block k (Nat.lt_of_lt_of_le h1 Hb1.out.size) h2).trans (Hb1.out.block k h1)
  have hr5 := Wi.row_heap Hr.out fun k e => hV5 k (Hr.out.lt k e).2 (Hd.out k e)
  have hm5 := Wi.row_heap Hown1.out fun k e => HW5.out.block k (Hown1.out.lt k e).2 (fun e1 => by have h1 := HK.out.lt k e1; have h2 := (Hown1.out.lt k e).1; omega)
  have hs5 := Try.sameNumbers_any (Try.Ns_row hr5 (by omega)) (Try.Ns_row hm5 (by omega))
  have HR5 : Hid (w5.ownsRow B 2 1 (.slice ad ls.length cap) ls.length (Wi.ics ls)) := hr5
  have HM5 : Hid (w5.ownsRow w.heap.size 2 1 (.slice ad1 ls.length cap1) ls.length (Wi.ics ls)) := hm5
  have HK5 : Hid (Try.Kp w5 own' b lv' mv' wv qv lv' hs' mv' (hs'.map fun x => x.m) (.slice none 0 0) 0 0) := hK5
  clear hr5 hm5 hK5 hl5 ho5 hwo5 hV5 k2 k3 hs1
  go_upto_region 6 with (first
    | (go_at_call 39; refine hs5.mono ?_; clear hs5; rintro e w6 ⟨rfl, n6, rfl⟩)
    | fail)
  have hK6 : Try.Kp (w5.drewN n6) own' b lv' mv' wv qv lv' hs' mv' (hs'.map fun x => x.m) (.slice none 0 0) 0 0 := HK5.out.keep (fun _ _ => rfl) (Nat.le_refl _)
  have HW6 : Hid (Wo own w1 (w5.drewN n6)) := HW5.out.drewN n6
  have HR6 : Hid ((w5.drewN n6).ownsRow B 2 1 (.slice ad ls.length cap) ls.length (Wi.ics ls)) := Wi.row_heap HR5.out fun _ _ => rfl
  have HM6 : Hid ((w5.drewN n6).ownsRow w.heap.size 2 1 (.slice ad1 ls.length cap1) ls.length (Wi.ics ls)) := Wi.row_heap HM5.out fun _ _ => rfl
  generalize w5.drewN n6 = W6 at *
  have k6 : W6.cell? ⟨b, 2, none⟩ = some wv := cell_of_row W6 b 2 _ _ _ hK6.bl
  have f6 : W6.frozen? ⟨b, 2, none⟩ = false := frozen_of_row W6 b 2 _ _ hK6.bl
  have HK6 : Hid (Try.Kp W6 own' b lv' mv' wv qv lv' hs' mv' (hs'.map fun x => x.m) (.slice none 0 0) 0 0) := hK6
  clear hK6 HR5 HM5 HK5 HW5
  go_upto_region 7 with fail
  have hK7 := (HK6.out.set 2 (.slice ad ls.length cap) rfl).1
  have hob7 : ∀ k, k ≠ b → (W6.setCell ⟨b, 2, none⟩ (.slice ad ls.length cap)).heap[k]? = W6.heap[k]? := fun k hk => Below.heap_setCell W6 ⟨b, 2, none⟩ _ k hk
  have hwo7 := HW6.out.setCell b 2 (.slice ad ls.length cap) (.inl HK.out.ob)
  generalize W6.setCell ⟨b, 2, none⟩ (.slice ad ls.length cap) = W7 at *
  have k7 : W7.cell? ⟨b, 3, none⟩ = some qv := cell_of_row W7 b 3 _ _ _ hK7.bl
  have f7 : W7.frozen? ⟨b, 3, none⟩ = false := frozen_of_row W7 b 3 _ _ hK7.bl
  have HK7 : Hid (Try.Kp W7 own' b lv' mv' (.slice ad ls.length cap) qv lv' hs' mv' (hs'.map fun x => x.m) (.slice none 0 0) 0 0) := hK7
  have HO7 : Hid (∀ k, k ≠ b → W7.heap[k]? = W6.heap[k]?) := hob7
  have HW7 : Hid (Wo own w1 W7) := hwo7
  clear hK7 hob7 hwo7 k6 f6
  go_wp2
  go_ret
  have hK8 := (HK7.out.set 3 (.slice ad1 ls.length cap1) rfl).1
  have hob8 : ∀ k, k ≠ b → (W7.setCell ⟨b, 3, none⟩ (.slice ad1 ls.length cap1)).heap[k]? = W7.heap[k]? := fun k hk => Below.heap_setCell W7 ⟨b, 3, none⟩ _ k hk
  have hwo8 := HW7.out.setCell b 3 (.slice ad1 ls.length cap1) (.inl HK.out.ob)
  have hsz := Hb1.out.size
  have hbw := HK.out.lt b HK.out.ob
  generalize W7.setCell ⟨b, 3, none⟩ (.slice ad1 ls.length cap1) = W8 at *
  have hV : ∀ k, (Value.slice ad ls.length cap).ownBlock = some k → ¬ own' k := fun k e e1 => by
    have h1 := (Hr.out.lt k e).2
    rcases Ho5.out k e1 with h2 | h2
    · exact Hd.out k e h2
    · omega
  have hr8 : W8.ownsRow B 2 1 (.slice ad ls.length cap) ls.length (Wi.ics ls) := Wi.row_heap HR6.out fun k e => by
    have hkb : k ≠ b := fun e1 => Hd.out k e (by rw [e1]; exact HK.out.ob)
    exact (hob8 k hkb).trans (HO7.out k hkb)
  have hm8 : W8.ownsRow w.heap.size 2 1 (.slice ad1 ls.length cap1) ls.length (Wi.ics ls) := Wi.row_heap HM6.out fun k e => by
    have h1 := (HM6.out.lt k e).1
    have hkb : k ≠ b := by omega
    exact (hob8 k hkb).trans (HO7.out k hkb)
  refine ⟨rfl, fun k => own' k ∨ (Value.slice ad ls.length cap).ownBlock = some k ∨ (Value.slice ad1 ls.length cap1).ownBlock = some k, ⟨lv', hs', mv', _, ls, _, hK8.more (fun k e => .inl e) (fun k e => ?_), by have h1 := Hl5.out; have h2 := Hl.out.1; omega, ⟨hr8.1, hr8.2.elim Or.inl fun ⟨g, c, cur, q1, q2, q3⟩ => Or.inr ⟨g, c, cur, q1, Nat.zero_le _, q3⟩⟩, fun k e => ⟨.inr (.inl e), fun e1 => Hd.out k e (by rw [e1]; exact HK.out.ob), fun e1 => hV k e (hK8.ol k e1).1, fun e1 => hV k e (hK8.om k e1).1, fun x hx e1 => hV k e (hK8.oe x hx k e1).1⟩, hn, Try.Ns_row hm8 (by omega), fun k e => ⟨.inr (.inr e), fun e1 => by have h1 := (hm8.lt k e).1; omega⟩⟩, fun k e => ?_, (Wo.ofBelow Hb1.out).trans hwo8⟩
  · rcases e with e | e | e
    · exact hK8.lt k e
    · exact (hr8.lt k e).2
    · exact (hm8.lt k e).2
  · rcases e with e | e | e
    · rcases Ho5.out k e with h2 | h2
      · exact .inl h2
      · exact .inr (.inr (by omega))
    · exact .inr (.inl e)
    · exact .inr (.inr (hm8.lt k e).1)
end Go.Proofs
