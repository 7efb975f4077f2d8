/-
  Laid together by packg.py of YfD.
-/
import Derived.Test.YtjiidkkmnlcpcaaGreatDoorPaF
namespace Go.Wb
/-- Two requests share no memory. -/
def Apart (p q : Pr) : Prop := ∀ k, (p.vh.ownBlock = some k ∨ p.vb.ownBlock = some k) → ¬ (q.vh.ownBlock = some k ∨ q.vb.ownBlock = some k)
end Go.Wb
namespace Go.Proofs
open Go.RowKit Go.Wi Go.Wb
/-- Requests in a row, none of which has another one's memory. -/
structure Tryz.RlD (w : World) (P : Nat → Prop) (V : Value) (rs : List Rq) : Prop where
  ex : ∃ ps : List Pr, rs = ps.map (·.rq) ∧ w.ownsRow 0 56 5 V ps.length (prCells ps) ∧ (∀ k, V.ownBlock = some k → P k) ∧ (∀ p ∈ ps, Tryz.PrOk w P V p) ∧ ps.Pairwise Apart
theorem Tryz.RlD.rl {w : World} {P : Nat → Prop} {V : Value} {rs : List Rq} (h : Tryz.RlD w P V rs) : Tryz.Rl w P V rs := by
  obtain ⟨ps, h1, h2, h3, h4, _⟩ := h.ex
  exact ⟨ps, h1, h2, h3, h4⟩
theorem Tryz.RlD.keep {w w' : World} {P P' : Nat → Prop} {V : Value} {rs : List Rq} (h : Tryz.RlD w P V rs) (hk : ∀ k, k < w.heap.size → P k → w'.heap[k]? = w.heap[k]? ∧ P' k) : Tryz.RlD w' P' V rs := by
  obtain ⟨ps, h1, h2, h3, h4, h5⟩ := h.ex
  exact ⟨ps, h1, row_keep h2 fun k e => (hk k (h2.lt k e).2 (h3 k e)).1, fun k e => (hk k (h2.lt k e).2 (h3 k e)).2, fun p hp => (h4 p hp).keep fun k a b _ => hk k a b, h5⟩
theorem Tryz.RlD.none (w : World) (P : Nat → Prop) : Tryz.RlD w P (.slice none 0 0) [] := ⟨[], rfl, World.ownsRow_nil _ _ _ _, (fun k e => by cases e), (fun p hp => by cases hp), List.Pairwise.nil⟩
/-- 'append' of a request. -/
theorem Tryz.appReqD {ops : Array Oper} {rest : List Oper} {o : Oper} {a : Act} {Q : Exit → Act → World → Prop} (hgd : o.guard = none) (s y : Operand)
    (ho : o.op = .call { callee := .builtin .append, args := #[s, y], argTypes := #[43, 43] })
    {w : World} {P Pp P' : Nat → Prop} {V : Value} {rs : List Rq} (hR : Tryz.RlD w P V rs) (p : Pr) (hp : Tryz.PrOk w Pp V p) (hdis : ∀ k, P k → Pp k → False) (hs : a.eval s = V) {H : Nat} (hy : a.eval y = .slice (some ⟨H, 0, none⟩) 1 1) (hH : H = w.heap.size) (hlen : rs.length + 1 ≤ 1000000000000)
    (hP : ∀ k, P k → P' k) (hPp : ∀ k, Pp k → P' k) (hP2 : ∀ k, w.heap.size ≤ k → P' k)
    (hK : ∀ g n cap w1, Tryz.RlD w1 P' (.slice (some ⟨g, 0, none⟩) n cap) (rs ++ [p.rq]) → Wo (fun k => V.ownBlock = some k) w w1 → wpList Tryz.prog ops Q rest (a.put o.dst (.slice (some ⟨g, 0, none⟩) n cap)) w1) :
    wpList Tryz.prog ops Q (o :: rest) a (w.alloc (.cells #[.string ⟨p.rq.method.toArray⟩, .string ⟨p.rq.target.toArray⟩, p.vh, p.vb, .bool p.rq.last] 56)) := by
  subst hH
  obtain ⟨ps, h1, h2, h3, h4, h5⟩ := hR.ex
  have hpl : ps.length = rs.length := by rw [h1, List.length_map]
  obtain ⟨i0, hi0, hz0, hz1, hz2⟩ := info_parts Tryz.infoReq
  have hn := heap_alloc_new w (.cells #[.string ⟨p.rq.method.toArray⟩, .string ⟨p.rq.target.toArray⟩, p.vh, p.vb, .bool p.rq.last] 56)
  have hb : Below w.heap.size w (w.alloc (.cells #[.string ⟨p.rq.method.toArray⟩, .string ⟨p.rq.target.toArray⟩, p.vh, p.vb, .bool p.rq.last] 56)) := (Below.refl w.heap.size w).alloc (Nat.le_refl _) _
  have hrow1 := row_keep h2 fun k e => hb.block k (h2.lt k e).2
  have hsz : (w.alloc (.cells #[.string ⟨p.rq.method.toArray⟩, .string ⟨p.rq.target.toArray⟩, p.vh, p.vb, .bool p.rq.last] 56)).heap.size = w.heap.size + 1 := by simp
  refine wpList_append_lies _ hgd s y 43 ho 0 56 i0 _ 5 88 Tryz.underlying43 hi0 hz0 hz1 hz2 rfl (by omega) V ps.length (prCells ps) hs hrow1 ⟨w.heap.size, 0, none⟩ 1 1 p.cells hy rfl (World.news_of_block (cs := #[.string ⟨p.rq.method.toArray⟩, .string ⟨p.rq.target.toArray⟩, p.vh, p.vb, .bool p.rq.last]) hn) (fun u hu => by
    simp only [Pr.cells, List.mem_cons, List.not_mem_nil, or_false] at hu
    rcases hu with rfl | rfl | rfl | rfl | rfl <;> rfl) (by omega) (by unfold maxLen; omega) (by omega) (by omega) _ rfl ?_
  intro g cap w' hown hg hat hlt
  have hw : Wo (fun k => V.ownBlock = some k) w w' := (Wo.ofBelow hb).grown hg fun k e => .inl e
  have hl : V.ownBlock = some g ∨ w.heap.size ≤ g := by
    rcases hat with e1 | e1
    · exact .inl e1
    · exact .inr (by show w.heap.size ≤ g; rw [e1, hsz]; omega)
  have hne : ∀ k, k < w.heap.size → V.ownBlock ≠ some k → (Value.slice (some ⟨g, 0, none⟩) (ps.length + 1) cap).ownBlock ≠ some k := fun k hk hv e => by
    cases e
    rcases hl with e1 | e1
    · exact hv e1
    · have : g < w.heap.size := hk
      omega
  have hone : ∀ (PP : Nat → Prop) (_ : ∀ k, PP k → P' k) (q : Pr), Tryz.PrOk w PP V q → Tryz.PrOk w' P' (.slice (some ⟨g, 0, none⟩) (ps.length + 1) cap) q := fun PP hPP q hq =>
    ⟨row_keep hq.heads fun k e => hw.block k (hq.heads.lt k e).2 (hq.ph k e).2, row_keep hq.body fun k e => hw.block k (hq.body.lt k e).2 (hq.pb k e).2, fun k e => ⟨hPP k (hq.ph k e).1, hne k (hq.heads.lt k e).2 (hq.ph k e).2⟩, fun k e => ⟨hPP k (hq.pb k e).1, hne k (hq.body.lt k e).2 (hq.pb k e).2⟩⟩
  refine hK g _ cap w' ⟨ps ++ [p], by rw [List.map_append, ← h1]; rfl, ?_, fun k e => ?_, fun q hq => ?_, List.pairwise_append.2 ⟨h5, List.pairwise_singleton _ _, fun q hq x hx => by rw [List.mem_singleton.1 hx]; exact fun k e1 e2 => hdis k (by rcases e1 with e | e; exact ((h4 q hq).ph k e).1; exact ((h4 q hq).pb k e).1) (by rcases e2 with e | e; exact (hp.ph k e).1; exact (hp.pb k e).1)⟩⟩ hw
  · rw [List.length_append, prCells_app]
    exact hown
  · cases e
    rcases hl with e1 | e1
    · exact hP g (h3 g e1)
    · exact hP2 g e1
  · rcases List.mem_append.1 hq with hq | hq
    · exact hone P hP q (h4 q hq)
    · rw [List.mem_singleton.1 hq]; exact hone Pp hPp p hp
/-- What a Feed leaves: the requests that it told, the fault's value. -/
structure Tryz.FedD (own : Nat → Prop) (w w' : World) (b : Nat) (m : Msg) (V ev : Value) (rs : List Rq) (own' : Nat → Prop) : Prop where
  ms : Tryz.Ms 77 w' own' b m
  sub : ∀ k, own' k → own k ∨ w.heap.size ≤ k
  wo : Wo own w w'
  rl : Tryz.RlD w' (fun k => (own k ∨ w.heap.size ≤ k) ∧ ¬ own' k) V rs
  err : m.fErr = 0 ∧ ev = .nilIface ∨ m.fErr ≠ 0 ∧ ∃ g, ev = .iface 97 (.pointer (some ⟨g, 0, none⟩)) ∧ w'.heap[g]? = some (.cells #[.int .i64 m.fAt, .int .i64 m.fErr] 63 (0, 0)) ∧ w.heap.size ≤ g ∧ ¬ own' g
theorem Tryz.fed_endD {own own1 : Nat → Prop} {w wr w1 : World} {b : Nat} {mk : Msg} {V ev : Value} {rs : List Rq} (hms : Tryz.Ms 77 wr own1 b mk) (hsub : ∀ k, own1 k → own k ∨ w.heap.size ≤ k) (hwo : Wo own w wr) (hrl : Tryz.RlD wr (fun k => (own k ∨ w.heap.size ≤ k) ∧ ¬ own1 k) V rs) (hb : Below wr.heap.size wr w1)
    (hev : mk.fErr = 0 ∧ ev = .nilIface ∨ mk.fErr ≠ 0 ∧ ev = .iface 97 (.pointer (some ⟨wr.heap.size, 0, none⟩)) ∧ w1.heap[wr.heap.size]? = some (.cells #[.int .i64 mk.fAt, .int .i64 mk.fErr] 63 (0, 0))) : Tryz.FedD own w w1 b mk V ev rs own1 := by
  refine ⟨hms.below hb, hsub, hwo.below hb hwo.size, hrl.keep fun k hk hp => ⟨hb.block k hk, hp⟩, ?_⟩
  rcases hev with h | ⟨h1, h2, h3⟩
  · exact .inl h
  · refine .inr ⟨h1, _, h2, h3, hwo.size, fun e => ?_⟩
    obtain ⟨aw, cw, ah, ch, ab, cb, hmw⟩ := hms.ex
    exact absurd (hmw.lt _ e) (Nat.lt_irrefl _)
theorem Tryz.fed_nextD {own own1 own2 : Nat → Prop} {w wr w2 : World} {V : Value} {rs : List Rq} (hsub : ∀ k, own1 k → own k ∨ w.heap.size ≤ k) (hwo : Wo own w wr) (hrl : Tryz.RlD wr (fun k => (own k ∨ w.heap.size ≤ k) ∧ ¬ own1 k) V rs) (hw : Wo own1 wr w2) (ho : ∀ k, own2 k → own1 k ∨ wr.heap.size ≤ k) :
    (∀ k, own2 k → own k ∨ w.heap.size ≤ k) ∧ Wo own w w2 ∧ Tryz.RlD w2 (fun k => (own k ∨ w.heap.size ≤ k) ∧ ¬ own2 k) V rs := by
  have hs := hwo.size
  refine ⟨fun k e => ?_, hwo.step hsub hw, hrl.keep fun k hk hp => ⟨hw.block k hk hp.2, hp.1, fun e => ?_⟩⟩
  · rcases ho k e with e1 | e1
    · exact hsub k e1
    · exact .inr (by omega)
  · rcases ho k e with e1 | e1
    · exact hp.2 e1
    · omega
theorem Tryz.fed_toldD {own own2 : Nat → Prop} {w w2 W4 : World} {b : Nat} {m1 : Msg} {aw ah ab : Option Addr} {cw ch cb : Nat} {V : Value} {rs : List Rq} (hmw : Tryz.Mw 77 w2 own2 b m1 aw cw ah ch ab cb) (_hsub : ∀ k, own2 k → own k ∨ w.heap.size ≤ k) (hrl : Tryz.RlD w2 (fun k => (own k ∨ w.heap.size ≤ k) ∧ ¬ own2 k) V rs) (hb : Below w2.heap.size w2 W4) :
    Tryz.RlD W4 (fun k => (own k ∨ w.heap.size ≤ k) ∧ ¬ own2 k) V rs ∧ Tryz.PrOk W4 (fun k => own2 k ∧ k ≠ b) V ⟨req m1, ah, ch, ab, cb⟩ ∧ (∀ k, V.ownBlock = some k → ¬ own2 k ∧ k < w2.heap.size ∧ (own k ∨ w.heap.size ≤ k)) ∧ (w.heap.size ≤ w2.heap.size → ∀ k, W4.heap.size ≤ k → (own k ∨ w.heap.size ≤ k) ∧ k ≠ b) := by
  have hV : ∀ k, V.ownBlock = some k → ¬ own2 k ∧ k < w2.heap.size ∧ (own k ∨ w.heap.size ≤ k) := fun k e => by
    obtain ⟨ps, h1, h2, h3, h4, _⟩ := hrl.ex
    exact ⟨(h3 k e).2, (h2.lt k e).2, (h3 k e).1⟩
  refine ⟨hrl.keep fun k hk hp => ⟨hb.block k hk, hp⟩, ?_, hV, fun hs k hk => ?_⟩
  · exact (hmw.told fun k e => (hV k e).1).keep fun k hk hp _ => ⟨hb.block k hk, hp⟩
  · have h1 := hmw.lt b hmw.ob
    have h2 := hb.size
    exact ⟨.inr (by omega), by omega⟩
theorem Tryz.fed_appD {own own2 : Nat → Prop} {w w2 W4 w5 : World} {b : Nat} {m1 : Msg} {aw ah ab : Option Addr} {cw ch cb : Nat} {V : Value} (hmw : Tryz.Mw 77 w2 own2 b m1 aw cw ah ch ab cb) (hb : Below w2.heap.size w2 W4) (hV : ∀ k, V.ownBlock = some k → ¬ own2 k ∧ k < w2.heap.size ∧ (own k ∨ w.heap.size ≤ k)) (hw : Wo (fun k => V.ownBlock = some k) W4 w5) :
    Tryz.Ms 77 w5 own2 b m1 ∧ ∀ x, w2.heap.size ≤ x → x < W4.heap.size → w5.heap[x]? = W4.heap[x]? := by
  refine ⟨⟨aw, cw, ah, ch, ab, cb, hmw.keep (fun k e => ?_) (Nat.le_trans hb.size hw.size)⟩, fun x h1 h2 => hw.block x h2 fun e => ?_⟩
  · have hk := hmw.lt k e
    exact (hw.block k (Nat.lt_of_lt_of_le hk hb.size) fun e' => (hV k e').1 e).trans (hb.block k hk)
  · have := (hV x e).2.1
    omega
set_option maxRecDepth 20000 in
set_option maxHeartbeats 4000000 in
theorem Tryz.feed_anyD {w : World} {own : Nat → Prop} {b : Nat} {m : Msg} (h : Tryz.Ms 77 w own b m) (hG : Wb.Good m) {V : Value} {l : List UInt8} (hV : Bs w V l) (hVo : ∀ k, V.ownBlock = some k → ¬ own k ∧ k < w.heap.size) (hat : m.at_ + l.length ≤ 140737488355328) (hll : l.length ≤ 999999999999) :
    Calls Tryz.prog 16 #[.pointer (some ⟨b, 0, none⟩), V] w fun e w' => ∃ ad n cap ev own', e = .returned (.tuple #[.slice ad n cap, ev]) ∧ Tryz.FedD own w w' b (fd m l).2 (.slice ad n cap) ev (fd m l).1 own' := by
  have HI : Hid (∃ (k : Nat) (mk : Msg) (rs : List Rq) (own1 : Nat → Prop) (ad : Option Addr) (n cap : Nat), Bs w V (l.drop k) ∧ (∀ j, V.ownBlock = some j → ¬ own j ∧ j < w.heap.size) ∧ k ≤ l.length ∧ fd m l = (rs ++ (fd mk (l.drop k)).1, (fd mk (l.drop k)).2) ∧ Wb.Good mk ∧ mk.at_ ≤ m.at_ + k ∧ Tryz.Ms 77 w own1 b mk ∧ (∀ k, own1 k → own k ∨ w.heap.size ≤ k) ∧ Wo own w w ∧ (Value.slice none 0 0 = .slice ad n cap) ∧ Tryz.RlD w (fun k => (own k ∨ w.heap.size ≤ k) ∧ ¬ own1 k) (.slice none 0 0) rs ∧ rs.length ≤ k) :=
    ⟨0, m, [], own, none, 0, 0, hV, hVo, Nat.zero_le _, by simp, hG, Nat.le_refl _, h, fun _ e => .inl e, Wo.refl _ _, rfl, Tryz.RlD.none _ _, Nat.le_refl _⟩
  have HAT : Hid (m.at_ + l.length ≤ 140737488355328) := hat
  have HLL : Hid (l.length ≤ 999999999999) := hll
  obtain ⟨adV, capV, rfl, -⟩ := hV.ex
  clear hV hVo hat h hG hll
  go_enter Tryz.func16, Tryz.ntmps16
  go_wp2
  go_loopw [1, 6, 7] (fun Vb Vw _ wr => ∃ (k : Nat) (mk : Msg) (rs : List Rq) (own1 : Nat → Prop) (ad : Option Addr) (n cap : Nat), Bs wr Vb (l.drop k) ∧ (∀ j, Vb.ownBlock = some j → ¬ own j ∧ j < w.heap.size) ∧ k ≤ l.length ∧ fd m l = (rs ++ (fd mk (l.drop k)).1, (fd mk (l.drop k)).2) ∧ Wb.Good mk ∧ mk.at_ ≤ m.at_ + k ∧ Tryz.Ms 77 wr own1 b mk ∧ (∀ k, own1 k → own k ∨ w.heap.size ≤ k) ∧ Wo own w wr ∧ (Vw = .slice ad n cap) ∧ Tryz.RlD wr (fun k => (own k ∨ w.heap.size ≤ k) ∧ ¬ own1 k) Vw rs ∧ rs.length ≤ k) (fun Vb _ _ _ => sliceLen Vb)
  case atStart => exact HI.out
  case round =>
    clear HI
    obtain ⟨k, mk, rs, own1, ad, n, cap, hBs, hVo, hk, hfd, hG, hmat, hm, hsub, hwo, rfl, hrl, hrk⟩ := hrel
    obtain ⟨adb, capb, rfl, hcapb, hnilb, hxb⟩ := hBs.ex
    have HBs : Hid (Bs wr (.slice adb (l.drop k).length capb) (l.drop k)) := hBs
    have HVO : Hid (∀ j, (Value.slice adb (l.drop k).length capb).ownBlock = some j → ¬ own j ∧ j < w.heap.size) := hVo
    have HFD : Hid (fd m l = (rs ++ (fd mk (l.drop k)).1, (fd mk (l.drop k)).2)) := hfd
    have HG : Hid (Wb.Good mk) := hG
    have HMA : Hid (mk.at_ ≤ m.at_ + k) := hmat
    have HMS : Hid (Tryz.Ms 77 wr own1 b mk) := hm
    have HSUB : Hid (∀ k, own1 k → own k ∨ w.heap.size ≤ k) := hsub
    have HWO : Hid (Wo own w wr) := hwo
    have HRL : Hid (Tryz.RlD wr (fun k => (own k ∨ w.heap.size ≤ k) ∧ ¬ own1 k) (.slice ad n cap) rs) := hrl
    have HRK : Hid (rs.length ≤ k) := hrk
    have HK : Hid (k ≤ l.length) := hk
    have ko := Tryz.over_any hm
    have hob : own1 b := by obtain ⟨aw, cw, ah, ch, ab, cb, hmw⟩ := hm.ex; exact hmw.ob
    clear hBs hVo hfd hG hmat hm hsub hwo hrl hrk hk
    obtain ⟨L, hL⟩ : ∃ L, l.drop k = L := ⟨_, rfl⟩
    have HLk : Hid (L.length + k = l.length) := (by show L.length + k = l.length; rw [← hL, List.length_drop]; have := HK.out; omega)
    have HLD : Hid (∀ j, L.drop j = l.drop (k + j)) := fun j => by rw [← hL, List.drop_drop]
    rw [hL] at HBs HVO HFD hcapb hxb ⊢
    clear hL
    by_cases hlt : 0 < L.length
    · have q : (0 : Int) < (L.length : Int) := by omega
      have hLn : L ≠ [] := by intro e; rw [e] at hlt; cases hlt
      obtain ⟨g, o, rfl⟩ : ∃ g o, adb = some ⟨g, o, none⟩ := by
        rcases hxb with e | ⟨g, o, e, _⟩
        · exact absurd e hLn
        · exact ⟨g, o, e⟩
      cases hov : Wb.over mk with
      | true =>
        rw [hov] at ko
        have kw := Tryz.wrong_any HMS.out
        have HE : Hid (fd m l = (rs, mk)) := (by show fd m l = (rs, mk); have := HFD.out; rw [fd_over hov] at this; simpa using this)
        clear hxb hcapb hov
        go_wp2_with (first
          | (go_at_call 27; refine ko.mono ?_; clear ko; rintro e w1 ⟨rfl, rfl⟩)
          | (go_at_call 21; refine kw.mono ?_; clear kw; rintro e w1 ⟨he1, hb1⟩; obtain ⟨ev, rfl, hev⟩ := Wb.err_value he1)
          | fail)
        go_ret2
        exact ⟨ad, n, cap, ev, own1, rfl, by rw [HE.out]; exact Tryz.fed_endD HMS.out HSUB.out HWO.out HRL.out hb1 hev⟩
      | false =>
        rw [hov] at ko
        have hl1 := HLk.out
        have hl2 := HMA.out
        have hl3 := HAT.out
        have kr := Tryz.read_any HMS.out HG.out HBs.out (fun j e => fun e' => by
          obtain ⟨a1, a2⟩ := HVO.out j e
          rcases HSUB.out j e' with q | q
          · exact a1 q
          · omega) (by have := (HG.out.rd L).2.2; omega) (by omega)
        obtain ⟨hG1, ha1, hK1⟩ := HG.out.rd L
        have hKp := rd_pos hov hLn
        have HFR : Hid _ := fd_rd hov L hLn
        obtain ⟨K, hKe⟩ : ∃ K, (rd mk L).2 = K := ⟨_, rfl⟩
        obtain ⟨m1, hm1e⟩ : ∃ m1, (rd mk L).1 = m1 := ⟨_, rfl⟩
        rw [hKe, hm1e] at kr ha1 HFR
        rw [hm1e] at hG1
        rw [hKe] at hK1 hKp
        have HG1 : Hid (Wb.Good m1) := hG1
        have HA1 : Hid (m1.at_ ≤ mk.at_ + K) := ha1
        clear hG1 ha1 hm1e hKe hl1 hl2 hl3 hov
        have HKp : Hid (0 < K ∧ K ≤ L.length) := ⟨hKp, hK1⟩
        have HRest : Hid (∀ W, (∀ j, (Value.slice (some ⟨g, o, none⟩) L.length capb).ownBlock = some j → W.heap[j]? = wr.heap[j]?) → Bs W (.slice (if capb = K then some ⟨g, o, none⟩ else some ⟨g, o + K, none⟩) (L.length - K) (capb - K)) (l.drop (k + K))) := fun W hW => by
          rw [← HLD.out]
          refine Wb.bs_rest (HBs.out.keep hW) hK1 _ ?_
          by_cases e : capb = K
          · exact .inr ⟨by omega, _, if_pos e⟩
          · exact .inl (if_neg e)
        have HVO2 : Hid (∀ j, (Value.slice (if capb = K then some ⟨g, o, none⟩ else some ⟨g, o + K, none⟩) (L.length - K) (capb - K)).ownBlock = some j → ¬ own j ∧ j < w.heap.size) := fun j e => HVO.out j (by
          by_cases e1 : capb = K
          · rw [if_pos e1] at e; exact e
          · rw [if_neg e1] at e; exact e)
        rw [HLD.out] at HFR
        have HOG : Hid (¬ own1 g) := fun e' => by
          obtain ⟨a1, a2⟩ := HVO.out g rfl
          rcases HSUB.out g e' with q | q
          · exact a1 q
          · omega
        have HGW : Hid (g < wr.heap.size) := Nat.lt_of_lt_of_le (HVO.out g rfl).2 HWO.out.size
        clear hxb hnilb
        cases hwh : Wb.whole m1 with
        | false =>
          have HF : Hid (fd m l = (rs ++ (fd m1 (l.drop (k + K))).1, (fd m1 (l.drop (k + K))).2)) := (by
            show fd m l = _
            rw [HFD.out, HFR.out, hwh]
            rfl)
          have kWh : ∀ w2, Tryz.MChg 77 own1 wr w2 b m1 → Calls Tryz.prog 20 #[.pointer (some ⟨b, 0, none⟩)] w2 fun e w' => e = .returned (.bool false) ∧ w' = w2 := fun w2 hC => by
            obtain ⟨own2, hm2, ho2⟩ := hC.ex
            have := Tryz.whole_any hm2
            rw [hwh] at this
            exact this
          clear hwh
          go_wp2_with (first
            | (go_at_call 27; refine ko.mono ?_; clear ko; rintro e w1 ⟨rfl, rfl⟩)
            | (go_at_call 19; refine kr.mono ?_; clear kr; rintro e w2 ⟨rfl, hC⟩; have kw2 := kWh w2 hC; clear kWh)
            | (go_at_call 20; refine kw2.mono ?_; clear kw2; rintro e w1 ⟨rfl, rfl⟩)
            | fail)
          go_roundw
          case rel =>
            obtain ⟨own2, hm2, ho2⟩ := hC.ex
            obtain ⟨n1, n2, n3⟩ := Tryz.fed_nextD HSUB.out HWO.out HRL.out hC.wo ho2
            have z1 := HKp.out
            have z2 := HLk.out
            have z3 := HMA.out
            have z4 := HA1.out
            have z5 := HRK.out
            exact ⟨k + K, m1, rs, own2, ad, n, cap, HRest.out _ (fun j e => by cases e; exact hC.wo.block g HGW.out HOG.out), HVO2.out, by omega, HF.out, HG1.out, by omega, hm2, n1, n2, rfl, n3, by omega⟩
          case measure => have := HKp.out; simp [sliceLen]; omega
        | true =>
          have HF : Hid (fd m l = ((rs ++ [req m1]) ++ (fd (goOn m1) (l.drop (k + K))).1, (fd (goOn m1) (l.drop (k + K))).2)) := (by
            show fd m l = _
            rw [HFD.out, HFR.out, hwh, if_pos rfl, List.append_assoc]
            rfl)
          have kWh : ∀ w2, Tryz.MChg 77 own1 wr w2 b m1 → Calls Tryz.prog 20 #[.pointer (some ⟨b, 0, none⟩)] w2 fun e w' => e = .returned (.bool true) ∧ w' = w2 := fun w2 hC => by
            obtain ⟨own2, hm2, ho2⟩ := hC.ex
            have := Tryz.whole_any hm2
            rw [hwh] at this
            exact this
          have HLEN : Hid (rs.length + 1 ≤ 1000000000000) := (by show rs.length + 1 ≤ _; have := HRK.out; have := HK.out; have := HLL.out; omega)
          clear hwh
          go_upto_region 4 with (first
            | (go_at_call 27; refine ko.mono ?_; clear ko; rintro e wr ⟨rfl, rfl⟩)
            | (go_at_call 19; refine kr.mono ?_; clear kr; rintro e w2 ⟨rfl, hC⟩)
            | fail)
          have kw2 := kWh w2 hC
          clear kWh
          obtain ⟨own2, ⟨aw, cw, ah, ch, ab, cb, hmw⟩, ho2⟩ := hC.ex
          have krq := Tryz.request_any hmw
          have HMW : Hid (Tryz.Mw 77 w2 own2 b m1 aw cw ah ch ab cb) := hmw
          have HC : Hid (Tryz.MChg 77 own1 wr w2 b m1) := hC
          have HO2 : Hid (∀ k, own2 k → own1 k ∨ wr.heap.size ≤ k) := ho2
          have hN := Tryz.fed_nextD HSUB.out HWO.out HRL.out hC.wo ho2
          have HN : Hid ((∀ k, own2 k → own k ∨ w.heap.size ≤ k) ∧ Wo own w w2 ∧ Tryz.RlD w2 (fun k => (own k ∨ w.heap.size ≤ k) ∧ ¬ own2 k) (.slice ad n cap) rs) := hN
          clear hmw hC ho2 hN
          go_upto_region 6 with (first
            | (go_at_call 20; refine kw2.mono ?_; clear kw2; rintro e w2 ⟨rfl, rfl⟩)
            | (go_at_call 32; refine krq.mono ?_; clear krq; rintro e w3 ⟨rfl, hb3⟩)
            | fail)
          have HB4 : Hid (Below w2.heap.size w2 (w3.alloc (.cells #[.string ⟨m1.method.toArray⟩, .string ⟨m1.target.toArray⟩, .slice ah m1.headers.length ch, .slice ab m1.body.length cb, .bool m1.last] 56))) := hb3.trans (((Below.refl _ w3).alloc (Nat.le_refl _) _).mono hb3.size)
          have hbx := heap_alloc_new w3 (.cells #[.string ⟨m1.method.toArray⟩, .string ⟨m1.target.toArray⟩, .slice ah m1.headers.length ch, .slice ab m1.body.length cb, .bool m1.last] 56)
          have HX3 : Hid (w2.heap.size ≤ w3.heap.size) := hb3.size
          clear hb3
          generalize w3.alloc _ = W4 at *
          generalize w3.heap.size = x3 at *
          have HBX : Hid (W4.heap[x3]? = some (.cells #[.string ⟨m1.method.toArray⟩, .string ⟨m1.target.toArray⟩, .slice ah m1.headers.length ch, .slice ab m1.body.length cb, .bool m1.last] 56 (0, 0))) := hbx
          have b0 := cell_of_row _ _ 0 _ _ _ hbx
          have b1 := cell_of_row _ _ 1 _ _ _ hbx
          have b2 := cell_of_row _ _ 2 _ _ _ hbx
          have b3 := cell_of_row _ _ 3 _ _ _ hbx
          have b4 := cell_of_row _ _ 4 _ _ _ hbx
          simp only [List.getElem?_toArray, List.getElem?_cons_succ, List.getElem?_cons_zero] at b0 b1 b2 b3 b4
          have hT4 := Tryz.fed_toldD HMW.out HN.out.1 HN.out.2.2 HB4.out
          have HR4 : Hid (Tryz.RlD W4 (fun k => (own k ∨ w.heap.size ≤ k) ∧ ¬ own2 k) (.slice ad n cap) rs) := hT4.1
          have HP4 : Hid (Tryz.PrOk W4 (fun k => own2 k ∧ k ≠ b) (.slice ad n cap) ⟨req m1, ah, ch, ab, cb⟩) := hT4.2.1
          have HV4 : Hid (∀ k, (Value.slice ad n cap).ownBlock = some k → ¬ own2 k ∧ k < w2.heap.size ∧ (own k ∨ w.heap.size ≤ k)) := hT4.2.2.1
          have HN4 : Hid (∀ k, W4.heap.size ≤ k → (own k ∨ w.heap.size ≤ k) ∧ k ≠ b) := hT4.2.2.2 HN.out.2.1.size
          clear hT4 hbx
          go_upto_region 7 with (first
            | (at_builtin; refine Tryz.appReqD (P' := fun k => (own k ∨ w.heap.size ≤ k) ∧ k ≠ b) rfl _ _ rfl HR4.out ⟨req m1, ah, ch, ab, cb⟩ HP4.out (fun k e1 e2 => e1.2 e2.1) rfl rfl (by simp) HLEN.out (fun k e => ⟨e.1, fun e2 => e.2 (e2 ▸ HMW.out.ob)⟩) (fun k e => ⟨HN.out.1 k e.1, e.2⟩) HN4.out ?_; intro g5 n5 cap5 w5 hR5 hw5)
            | fail)
          have hA5 := Tryz.fed_appD HMW.out HB4.out HV4.out hw5
          have hx5 := (hA5.2 x3 HX3.out (block_lt HBX.out)).trans HBX.out
          have d4 : w5.cell? ⟨x3, 4, none⟩ = some (.bool m1.last) := (cell_of_row _ _ 4 _ _ _ hx5).trans rfl
          have kgo := Tryz.goOn_any hA5.1
          have HR5 : Hid (Tryz.RlD w5 (fun k => (own k ∨ w.heap.size ≤ k) ∧ k ≠ b) (.slice (some ⟨g5, 0, none⟩) n5 cap5) (rs ++ [req m1])) := hR5
          have HW5 : Hid (Wo (fun k => (Value.slice ad n cap).ownBlock = some k) W4 w5) := hw5
          clear hA5 hx5 hR5 hw5 b0 b1 b2 b3 b4
          go_wp2_with (first
            | (go_at_call 33; refine kgo.mono ?_; clear kgo; rintro e w6 ⟨⟨v6, rfl⟩, hm6, hw6⟩)
            | fail)
          go_roundw
          case rel =>
            have z1 := HKp.out
            have z2 := HLk.out
            have z3 := HMA.out
            have z4 := HA1.out
            have z5 := HRK.out
            have z6 := goOn_at m1
            have hs4 := HB4.out.size
            have hob2 := HMW.out.ob
            have hbl := HMW.out.lt b hob2
            have hwo4 : Wo own w W4 := HN.out.2.1.below HB4.out HN.out.2.1.size
            have hwo5 : Wo own w w5 := hwo4.step (fun j e => (HV4.out j e).2.2) HW5.out
            have hwo6 : Wo own w w6 := hwo5.step (fun j e => by rw [e]; exact HN.out.1 b hob2) hw6
            have hs5 := HW5.out.size
            refine ⟨k + K, goOn m1, rs ++ [req m1], (fun j => j = b), some ⟨g5, 0, none⟩, n5, cap5, HRest.out _ (fun j e => ?_), HVO2.out, by omega, HF.out, HG1.out.goOn, by omega, hm6, (fun j e => by rw [e]; exact HN.out.1 b hob2), hwo6, rfl, HR5.out.keep fun j hj hp => ⟨hw6.block j hj hp.2, hp⟩, by rw [List.length_append, List.length_singleton]; omega⟩
            cases e
            have hgw := HGW.out
            have hg2 : g < w2.heap.size := Nat.lt_of_lt_of_le hgw HC.out.wo.size
            have hvg := HVO.out g rfl
            have hgb : g ≠ b := fun e => HOG.out (e ▸ hob)
            rw [hw6.block g (by omega) hgb, HW5.out.block g (by omega) (fun e => by
              rcases (HV4.out g e).2.2 with q | q
              · exact hvg.1 q
              · have := hvg.2; omega), HB4.out.block g hg2]
            exact HC.out.wo.block g hgw HOG.out
          case measure => have := HKp.out; simp [sliceLen]; omega
    · have q : ¬ (0 : Int) < (L.length : Int) := by omega
      have hL0 : L = [] := List.eq_nil_of_length_eq_zero (by omega)
      have kw := Tryz.wrong_any HMS.out
      have HE : Hid (fd m l = (rs, mk)) := (by show fd m l = (rs, mk); have := HFD.out; rw [hL0, show fd mk [] = ([], mk) from rfl] at this; simpa using this)
      clear hxb hcapb hL0
      go_wp2_with (first
        | (go_at_call 27; refine ko.mono ?_; clear ko; rintro e w1 ⟨rfl, rfl⟩)
        | (go_at_call 21; refine kw.mono ?_; clear kw; rintro e w1 ⟨he1, hb1⟩; obtain ⟨ev, rfl, hev⟩ := Wb.err_value he1)
        | fail)
      go_ret2
      exact ⟨ad, n, cap, ev, own1, rfl, by rw [HE.out]; exact Tryz.fed_endD HMS.out HSUB.out HWO.out HRL.out hb1 hev⟩
end Go.Proofs
