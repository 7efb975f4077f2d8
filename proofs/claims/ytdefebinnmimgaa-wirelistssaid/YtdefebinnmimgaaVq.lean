/-
  ReadList of numbers, where nothing is wrong.
-/
import Derived.Test.YtdefebinnmimgaaVp
namespace Go.Proofs
open Go.RowKit Go.Wi
/-- A reader, a row of numbers and a block that is kept, apart, above a floor. -/
structure Try.RI (B : Nat) (w0 w : World) (x : Nat) (s : Rs) (v : Value) (li : List Int) (g : Nat) (O : Obj) : Prop where
  ex : ∃ oR, Try.Rd w oR x s ∧ (∀ k, oR k → B ≤ k) ∧ w.ownsRow B 2 1 v li.length (Wi.ics li) ∧ (∀ k, v.ownBlock = some k → ¬ oR k) ∧ w.heap[g]? = some O ∧ ¬ oR g ∧ v.ownBlock ≠ some g
  bel : Below B w0 w
theorem Try.RI.le {B : Nat} {w0 w : World} {x : Nat} {s : Rs} {v : Value} {li : List Int} {g : Nat} {O : Obj} (h : Try.RI B w0 w x s v li g O) : B ≤ w.heap.size := by
  obtain ⟨oR, h1, h2, _⟩ := h.ex
  exact Nat.le_of_lt (Nat.lt_of_le_of_lt (h2 x h1.ox) (h1.lt x h1.ox))
theorem Try.RI.kept {B : Nat} {w0 w : World} {x : Nat} {s : Rs} {v : Value} {li : List Int} {g : Nat} {O : Obj} (h : Try.RI B w0 w x s v li g O) : w.heap[g]? = some O := by
  obtain ⟨oR, h1, h2, _, _, h5, _⟩ := h.ex
  exact h5
theorem Try.RI.rb {B : Nat} {w0 w : World} {x : Nat} {s : Rs} {v : Value} {li : List Int} {g : Nat} {O : Obj} (h : Try.RI B w0 w x s v li g O) : Try.RB B w0 w x s := by
  obtain ⟨oR, h1, h2, _⟩ := h.ex
  exact ⟨⟨oR, h1, h2⟩, h.bel⟩
theorem Try.RI.row {B : Nat} {w0 w : World} {x : Nat} {s : Rs} {v : Value} {li : List Int} {g : Nat} {O : Obj} (h : Try.RI B w0 w x s v li g O) : w.ownsRow B 2 1 v li.length (Wi.ics li) := by
  obtain ⟨oR, h1, h2, h3, _⟩ := h.ex
  exact h3
theorem Try.RI.new {B : Nat} {w0 w : World} {x : Nat} {s : Rs} (h : Try.RB B w0 w x s) (cs : Array Value) (T : TypeId) : Try.RI B w0 (w.alloc (.cells cs T)) x s (.slice .none 0 0) [] w.heap.size (.cells cs T (0, 0)) := by
  obtain ⟨oR, h1, h2⟩ := h.ex
  have hb : Below w.heap.size w (w.alloc (.cells cs T)) := (Below.refl w.heap.size w).alloc (Nat.le_refl _) _
  exact ⟨⟨oR, h1.below hb, h2, World.ownsRow_nil _ _ _ _, (fun k e => by cases e), heap_alloc_new w _, (fun e => by have := h1.lt _ e; omega), (fun e => by cases e)⟩, h.bel.trans (hb.mono h.le)⟩
theorem Try.RI.below {B : Nat} {w0 w w' : World} {x : Nat} {s : Rs} {v : Value} {li : List Int} {g : Nat} {O : Obj} (h : Try.RI B w0 w x s v li g O) (hb : Below w.heap.size w w') : Try.RI B w0 w' x s v li g O := by
  obtain ⟨oR, h1, h2, h3, h4, h5, h6, h7⟩ := h.ex
  exact ⟨⟨oR, h1.below hb, h2, Wi.row_heap h3 fun k e => hb.block k (h3.lt k e).2, h4, (hb.block g (block_lt h5)).trans h5, h6, h7⟩, h.bel.trans (hb.mono h.le)⟩
theorem Try.RI.drewN {B : Nat} {w0 w : World} {x : Nat} {s : Rs} {v : Value} {li : List Int} {g : Nat} {O : Obj} (h : Try.RI B w0 w x s v li g O) (n : Nat) : Try.RI B w0 (w.drewN n) x s v li g O := h.below (belowN (Below.refl _ _) n)
theorem Try.RI.chg {B : Nat} {w0 w w' : World} {x : Nat} {s s' : Rs} {v : Value} {li : List Int} {g : Nat} {O : Obj} {oR : Nat → Prop} (hb : Below B w0 w) (h1 : Try.Rd w oR x s) (h2 : ∀ k, oR k → B ≤ k) (h3 : w.ownsRow B 2 1 v li.length (Wi.ics li)) (h4 : ∀ k, v.ownBlock = some k → ¬ oR k) (h5 : w.heap[g]? = some O) (h6 : ¬ oR g) (h7 : v.ownBlock ≠ some g) (hc : Try.RChg oR w w' x s') : Try.RI B w0 w' x s' v li g O := by
  obtain ⟨oR', g1, g2⟩ := hc.ex
  have hBx := h2 x h1.ox
  have hxl := h1.lt x h1.ox
  have hgl := block_lt h5
  refine ⟨⟨oR', g1, fun k e => ?_, Wi.row_heap h3 fun k e => hc.wo.block k (h3.lt k e).2 (fun e1 => h4 k e (by rw [e1]; exact h1.ox)), fun k e e2 => ?_, (hc.wo.block g hgl (fun e1 => h6 (by rw [e1]; exact h1.ox))).trans h5, fun e => ?_, h7⟩, Wo.toBelow hb hc.wo (fun k e => by omega) (by omega)⟩
  · rcases g2 k e with e1 | e1
    · exact h2 k e1
    · omega
  · rcases g2 k e2 with e1 | e1
    · exact h4 k e e1
    · have := (h3.lt k e).2; omega
  · rcases g2 g e with e1 | e1
    · exact h6 e1
    · omega
theorem Try.RI.nofault {B : Nat} {w0 w : World} {x : Nat} {s : Rs} {v : Value} {li : List Int} {g : Nat} {O : Obj} (h : Try.RI B w0 w x s v li g O) (hf : s.f = .none) : w.cell? ⟨x, 2, .none⟩ = some (.pointer .none) := by
  obtain ⟨oR, h1, _⟩ := h.ex
  obtain ⟨V, fv, hx, -, -, -, hfv⟩ := h1.ex
  rcases hfv with ⟨_, rfl⟩ | ⟨b, y, hf', -⟩
  · exact cell_of_row w x 2 _ _ _ hx
  · rw [hf] at hf'; cases hf'
theorem Try.RI.rInt {B : Nat} {w0 w : World} {x : Nat} {s : Rs} {v : Value} {li : List Int} {g : Nat} {O : Obj} (h : Try.RI B w0 w x s v li g O) :
    Calls Try.prog 15 #[.pointer (some ⟨x, 0, .none⟩)] w fun e w' => e = .returned (.int .i64 s.int.1) ∧ Try.RI B w0 w' x s.int.2 v li g O := by
  obtain ⟨oR, h1, h2, h3, h4, h5, h6, h7⟩ := h.ex
  exact (Try.rInt_any h1).mono fun _ _ ⟨e1, e2⟩ => ⟨e1, Try.RI.chg h.bel h1 h2 h3 h4 h5 h6 h7 e2⟩
theorem Try.RI.rFlag {B : Nat} {w0 w : World} {x : Nat} {s : Rs} {v : Value} {li : List Int} {g : Nat} {O : Obj} (h : Try.RI B w0 w x s v li g O) :
    Calls Try.prog 18 #[.pointer (some ⟨x, 0, .none⟩)] w fun e w' => e = .returned (.bool s.flag.1) ∧ Try.RI B w0 w' x s.flag.2 v li g O := by
  obtain ⟨oR, h1, h2, h3, h4, h5, h6, h7⟩ := h.ex
  exact (Try.rFlag_any h1).mono fun _ _ ⟨e1, e2⟩ => ⟨e1, Try.RI.chg h.bel h1 h2 h3 h4 h5 h6 h7 e2⟩
theorem Try.RI.rText {B : Nat} {w0 w : World} {x : Nat} {s : Rs} {v : Value} {li : List Int} {g : Nat} {O : Obj} (h : Try.RI B w0 w x s v li g O) :
    Calls Try.prog 20 #[.pointer (some ⟨x, 0, .none⟩)] w fun e w' => e = .returned (.string ⟨s.text.1.toArray⟩) ∧ Try.RI B w0 w' x s.text.2 v li g O := by
  obtain ⟨oR, h1, h2, h3, h4, h5, h6, h7⟩ := h.ex
  exact (Try.rText_any h1).mono fun _ _ ⟨e1, e2⟩ => ⟨e1, Try.RI.chg h.bel h1 h2 h3 h4 h5 h6 h7 e2⟩
set_option maxHeartbeats 1000000 in
theorem Try.RI.one {B : Nat} {w0 w : World} {x : Nat} {s : Rs} {v : Value} {li : List Int} {g : Nat} {O : Obj} (h : Try.RI B w0 w x s v li g O) :
    Calls Try.prog 41 #[.pointer (some ⟨x, 0, .none⟩)] w fun e w' => e = .returned (.int .i64 s.int.1) ∧ Try.RI B w0 w' x s.int.2 v li g O := by
  have h5 := h.rInt
  clear h
  go_enter Try.func41, Try.ntmps41
  go_wp2_with (first | (go_at_call 15; refine h5.mono ?_; clear h5; rintro e w2 ⟨rfl, h2⟩) | fail)
  go_ret
  exact ⟨rfl, h2⟩
theorem Try.RI.wider {B : Nat} {w0 w : World} {x : Nat} {s : Rs} {v : Value} {li : List Int} {g : Nat} {O : Obj} (h : Try.RI B w0 w x s v li g O) (room : Nat) (hr : room ≤ 1000000000000) (hl : li.length ≤ 1000000000000) :
    Calls Try.prog 62 #[v, .int .i64 room] w fun e w' => ∃ ad cap, e = .returned (.slice ad li.length cap) ∧ Try.RI B w0 w' x s (.slice ad li.length cap) li g O := by
  obtain ⟨oR, h1, h2, h3, h4, h5, h6, h7⟩ := h.ex
  have hgl := block_lt h5
  have hle := h.le
  refine (Try.wider_any h3 room hr hl).mono fun _ _ ⟨ad, cap, e1, e2, e3⟩ => ⟨ad, cap, e1, ⟨oR, h1.below e3, h2, ?_, fun k e e4 => by have := (e2.lt k e).1; have := h1.lt k e4; omega, (e3.block g hgl).trans h5, h6, fun e => by have := (e2.lt g e).1; omega⟩, h.bel.trans (e3.mono hle)⟩
  exact ⟨e2.1, e2.2.elim Or.inl fun ⟨g', c, cur, q1, q2, q3⟩ => Or.inr ⟨g', c, cur, q1, by omega, q3⟩⟩
/-- 'append' of one number. -/
theorem Try.appI {ops : Array Oper} {rest : List Oper} {o : Oper} {a : Act} {Q : Exit → Act → World → Prop} (hgd : o.guard = .none) (p y : Operand)
    (ho : o.op = .call { callee := .builtin .append, args := #[p, y], argTypes := #[32, 32] })
    {B : Nat} {w0 w : World} {x : Nat} {s : Rs} {v : Value} {li : List Int} {gk : Nat} {O : Obj} (h : Try.RI B w0 w x s v li gk O)
    (hs : a.eval p = v) (hy : a.eval y = .slice (some ⟨w.heap.size, 0, .none⟩) 1 1) (n : Int) (hlen : (li.length + 1) * 8 ≤ 140737488355328)
    (hK : ∀ ad cap w1, Try.RI B w0 w1 x s (.slice ad (li.length + 1) cap) (li ++ [n]) gk O → wpList Try.prog ops Q rest (a.put o.dst (.slice ad (li.length + 1) cap)) w1) : wpList Try.prog ops Q (o :: rest) a (w.alloc (.cells #[.int .i64 n] 2)) := by
  obtain ⟨oR, h1, h2, h3, h4, h5, h6, h7⟩ := h.ex
  have hgl := block_lt h5
  have hle := h.le
  obtain ⟨i0, hi0, hz0, hz1, hz2⟩ := info_parts Try.info_i64
  have hnb : (w.alloc (.cells #[.int .i64 n] 2)).heap[w.heap.size]? = some (.cells #[.int .i64 n] 2 (0, 0)) := heap_alloc_new w _
  have hb : Below w.heap.size w (w.alloc (.cells #[.int .i64 n] 2)) := (Below.refl w.heap.size w).alloc (Nat.le_refl _) _
  have hrow1 := Wi.row_heap h3 fun k e => hb.block k (h3.lt k e).2
  refine wpList_append_lies _ hgd p y 32 ho B 2 i0 _ 1 8 Try.underlying32 hi0 hz0 hz1 hz2 rfl (by omega) v li.length (Wi.ics li) hs hrow1 ⟨w.heap.size, 0, .none⟩ 1 1 [.int .i64 n] hy rfl (World.news_of_block hnb) (by simp [Value.oneCell']) (by omega) (by unfold maxLen; omega) (by omega) (Nat.le_trans hle hb.size) _ rfl ?_
  intro g cap w' hown hg hat hlt
  have hsz : (w.alloc (.cells #[.int .i64 n] 2)).heap.size = w.heap.size + 1 := by simp
  have e : Wi.ics li ++ [Value.int .i64 n] = Wi.ics (li ++ [n]) := by simp [Wi.ics]
  rw [e] at hown
  have hl : (li ++ [n]).length = li.length + 1 := by simp
  refine hK (some ⟨g, 0, .none⟩) cap w' ⟨⟨oR, (h1.below hb).keep (fun k e1 => hg.block k (by have := h1.lt k e1; omega) (fun e2 => h4 k e2.symm e1)) hg.size, h2, by rw [hl]; exact hown, fun k e1 e2 => ?_, (hg.block gk (by omega) (fun e => h7 e.symm)).trans ((hb.block gk hgl).trans h5), h6, fun e1 => ?_⟩, ?_⟩
  · cases e1
    rcases hat with e3 | e3
    · exact h4 _ e3 e2
    · have := h1.lt _ e2
      have e4 : g = w.heap.size + 1 := by rw [e3, hsz]
      simp only at this
      omega
  · cases e1
    rcases hat with e3 | e3
    · exact h7 e3
    · have e4 : g = w.heap.size + 1 := by rw [← hsz]; exact e3
      simp only at hgl
      omega
  · exact (h.bel.trans (hb.mono hle)).grown hg (Nat.le_trans hle hb.size) fun k e1 => (h3.lt k e1).1
set_option maxRecDepth 4000 in
set_option maxHeartbeats 4000000 in
theorem Try.readList_ok {B : Nat} {w0 w : World} {x : Nat} (a r : List UInt8) (li : List Int) (t : List UInt8) (ht : t = a ++ (cnt li.length ++ (zs li ++ r))) {g : Nat} {O : Obj} (h : Try.RI B w0 w x ⟨t, a.length, .none⟩ (.slice .none 0 0) [] g O) (hok : ∀ n ∈ li, In64 n) (hl : li.length ≤ 1000000000000) (p2 : Nat) (hp2 : p2 = a.length + (cnt li.length).length + (zs li).length) :
    Calls Try.prog 40 #[.pointer (some ⟨x, 0, .none⟩), .int .i64 li.length, .func (.func 41) #[] #[]] w fun e w' => ∃ ad cap, e = .returned (.slice ad li.length cap) ∧ Try.RI B w0 w' x ⟨t, p2, .none⟩ (.slice ad li.length cap) li g O := by
  have hfn := Try.funcNil 71 (.inr rfl) 41
  have hcr := cnt_read a (zs li ++ r) li.length (by omega)
  rw [← ht] at hcr
  have hth : Wi.thing ⟨t, a.length, .none⟩ (li.length : Int) = (li.length, ⟨t, a.length + (cnt li.length).length, .none⟩) := by
    unfold Wi.thing
    rw [hcr, if_neg (by simp only; omega)]
  have h1 : Calls Try.prog 53 #[.pointer (some ⟨x, 0, .none⟩), .int .i64 li.length] w fun e w' => e = .returned (.int .i64 li.length) ∧ Try.RI B w0 w' x ⟨t, a.length + (cnt li.length).length, .none⟩ (.slice .none 0 0) [] g O := by
    obtain ⟨own, g1, g2, g3, g4, g5, g6, g7⟩ := h.ex
    have := Try.things_any g1 (li.length : Int) (by unfold In64; omega)
    rw [hth] at this
    exact this.mono fun _ _ ⟨e1, e2⟩ => ⟨e1, Try.RI.chg h.bel g1 g2 g3 g4 g5 g6 g7 e2⟩
  obtain ⟨p1, hp1⟩ : ∃ p1, p1 = a.length + (cnt li.length).length := ⟨_, rfl⟩
  rw [← hp1] at h1
  have hzl := zs_len li hok
  have htl : t.length - p1 = (zs li).length + r.length := by rw [ht, hp1]; simp only [List.length_append]; omega
  have hleft : ∀ W, Try.RI B w0 W x ⟨t, p1, .none⟩ (.slice .none 0 0) [] g O → Calls Try.prog 48 #[.pointer (some ⟨x, 0, .none⟩)] W fun e w' => e = .returned (.int .i64 ((zs li).length + r.length : Nat)) ∧ Try.RI B w0 w' x ⟨t, p1, .none⟩ (.slice .none 0 0) [] g O := fun W hW => by
    obtain ⟨own, g1, -⟩ := hW.ex
    have := Try.left_any g1
    simp only [htl] at this
    exact this.mono fun _ _ ⟨e1, n, e2⟩ => ⟨e1, by rw [e2]; exact hW.drewN n⟩
  have q1 : ¬ (((zs li).length + r.length : Nat) : Int) < (li.length : Int) := by omega
  have hmin : min (li.length : Int) (((zs li).length + r.length : Nat) : Int) = (li.length : Int) := by omega
  generalize (zs li).length + r.length = lf at hleft q1 hmin
  have Hok : Hid (∀ n ∈ li, In64 n) := hok
  have Ht : Hid (t = a ++ (cnt li.length ++ (zs li ++ r))) := ht
  have Hp1 : Hid (p1 = a.length + (cnt li.length).length) := hp1
  have Hp2 : Hid (p2 = a.length + (cnt li.length).length + (zs li).length) := hp2
  have Hl : Hid (li.length ≤ 1000000000000) := hl
  clear hth hcr hzl htl hp1 hp2 ht hok h
  go_enter Try.func40, Try.ntmps40
  go_wp2_with (first
    | (go_at_call 53; refine h1.mono ?_; clear h1; rintro e w2 ⟨rfl, hR2⟩; have h2 := hleft w2 hR2)
    | (go_at_call 48; refine h2.mono ?_; clear h2 hleft; rintro e w3 ⟨rfl, hR3⟩)
    | fail)
  have HR3 : Hid (Try.RI B w0 w3 x ⟨t, p1, .none⟩ (.slice .none 0 0) [] g O) := hR3
  clear hR2 hR3 q1
  go_loopw [9, 10, 21] (fun l _ i wr => ∃ (k : Nat) (ad : Option Addr) (cap p : Nat), k ≤ li.length ∧ i = .int .i64 k ∧ l = .slice ad k cap ∧ p = p1 + (zs (li.take k)).length ∧ Try.RI B w0 wr x ⟨t, p, .none⟩ (.slice ad k cap) (li.take k) g O) (fun _ _ i _ => li.length - (intOf i).toNat)
  case atStart => exact ⟨0, .none, 0, p1, Nat.zero_le _, rfl, rfl, by simp [zs], HR3.out⟩
  case round =>
    obtain ⟨k, ad, cap, p, hk, rfl, rfl, hp, hR⟩ := hrel
    by_cases hkq : k < li.length
    · have q0 : (k : Int) < (li.length : Int) := by omega
      have hin : (Rs.mk t p .none).int = (li[k], ⟨t, p + (cnt (zig li[k])).length, .none⟩) := by
        have hn := Hok.out _ (List.getElem_mem hkq)
        have e1 : zs li = zs (li.take k) ++ (cnt (zig li[k]) ++ zs (li.drop (k + 1))) := by
          have e2 : li = li.take k ++ (li[k] :: li.drop (k + 1)) := by rw [← List.drop_eq_getElem_cons hkq, List.take_append_drop]
          conv => lhs; rw [e2, zs_app]
          rfl
        have e3 : t = (a ++ cnt li.length ++ zs (li.take k)) ++ (cnt (zig li[k]) ++ (zs (li.drop (k + 1)) ++ r)) := by
          rw [Ht.out, e1]; simp only [List.append_assoc]
        have e4 : p = (a ++ cnt li.length ++ zs (li.take k)).length := by rw [hp, Hp1.out]; simp only [List.length_append]
        have := int_read (a ++ cnt li.length ++ zs (li.take k)) (zs (li.drop (k + 1)) ++ r) li[k] hn.1 hn.2
        rw [← e3, ← e4] at this
        exact this
      have h4 := hR.one
      rw [hin] at h4
      have Htk : Hid (li.take k ++ [li[k]] = li.take (k + 1)) := (by show _ = _; exact List.take_append_getElem hkq)
      have Hpn : Hid (p + (cnt (zig li[k])).length = p1 + (zs (li.take (k + 1))).length) := (by
        show _ = _
        rw [← List.take_append_getElem hkq, zs_app, List.length_append, hp]
        simp [zs, Nat.add_assoc])
      have hlk : (li.take k).length = k := by rw [List.length_take]; omega
      have Hlk : Hid ((li.take k).length = k) := hlk
      obtain ⟨n, hn⟩ : ∃ n, n = li[k] := ⟨_, rfl⟩
      rw [← hn] at Htk Hpn
      simp only [← hn] at h4
      obtain ⟨pn, hpn⟩ : ∃ pn, pn = p + (cnt (zig n)).length := ⟨_, rfl⟩
      rw [← hpn] at Hpn
      simp only [← hpn] at h4
      clear hin hp hlk hpn hn
      by_cases hcap : k = cap
      · have q2 : ((k : Int) == (cap : Int)) = true := by simp [hcap]
        have Hc : Hid (k = cap) := hcap
        clear hcap
        go_wp2_with (first
          | (go_at_call 41; refine h4.mono ?_; clear h4; rintro e w5 ⟨rfl, hR5⟩; have c2 := hR5.nofault rfl; have h5 := hR5.wider li.length Hl.out (by rw [Hlk.out]; have := Hl.out; omega); rw [Hlk.out] at h5)
          | (go_at_call 62; refine h5.mono ?_; clear h5; rintro e w6 ⟨ad6, cap6, rfl, hR6⟩)
          | (at_builtin; refine Try.appI rfl _ _ rfl hR6 rfl rfl n (by rw [Hlk.out]; have := Hl.out; omega) ?_; intro ad7 cap7 w7 hR7; rw [Hlk.out] at hR7 ⊢)
          | fail)
        go_roundw
        case rel => exact ⟨k + 1, ad7, cap7, pn, by omega, by go_num, rfl, Hpn.out, by rw [← Htk.out]; exact hR7⟩
        case measure => simp [intOf]; omega
      · have q2 : ((k : Int) == (cap : Int)) = false := by simp; omega
        clear hcap
        go_wp2_with (first
          | (go_at_call 41; refine h4.mono ?_; clear h4; rintro e w5 ⟨rfl, hR5⟩; have c2 := hR5.nofault rfl)
          | (at_builtin; refine Try.appI rfl _ _ rfl hR5 rfl rfl n (by rw [Hlk.out]; have := Hl.out; omega) ?_; intro ad7 cap7 w7 hR7; rw [Hlk.out] at hR7 ⊢)
          | fail)
        go_roundw
        case rel => exact ⟨k + 1, ad7, cap7, pn, by omega, by go_num, rfl, Hpn.out, by rw [← Htk.out]; exact hR7⟩
        case measure => simp [intOf]; omega
    · have q0 : ¬ (k : Int) < (li.length : Int) := by omega
      have hkk : k = li.length := by omega
      subst hkk
      rw [List.take_length] at hp hR
      have Hpp : Hid (p = p2) := (by show _ = _; rw [hp, Hp1.out, Hp2.out])
      clear hp
      go_wp2
      go_ret
      rw [Hpp.out] at hR
      exact ⟨_, _, rfl, hR⟩
end Go.Proofs
