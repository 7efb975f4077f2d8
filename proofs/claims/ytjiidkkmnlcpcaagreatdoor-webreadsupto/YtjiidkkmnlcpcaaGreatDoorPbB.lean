/-
  Laid together by packg.py of WuE WuF.
-/
import Derived.Test.YtjiidkkmnlcpcaaGreatDoorPbA
import Derived.Test.YtjiidkkmnlcpcaaGreatDoorPaZ
import Derived.Test.YtjiidkkmnlcpcaaGreatDoorPaF
import Derived.Test.YtjiidkkmnlcpcaaGreatDoorPaY
namespace Go.Wb
/-- A state function leaves the place, or all is over. -/
def Aw (m : Msg) (o : Out) : Prop := o.2.at_ = m.at_ ∨ (o.1.1 = .no ∧ o.2.left = 0)
theorem aw_headEnds (m : Msg) : Aw m (headEnds m) := by unfold headEnds; (repeat' split); all_goals first | exact .inl rfl | exact .inr ⟨rfl, rfl⟩
theorem aw_thenDo (m : Msg) (t : Th) : Aw m (thenDo t m) := by
  cases t with
  | headerEnds => show Aw m (headerEnds m); unfold headerEnds; split <;> exact .inl rfl
  | emptyLineEnds => show Aw m (emptyLineEnds m); unfold emptyLineEnds; split; exact .inl rfl; exact aw_headEnds { m with bound := -1, word := [], name := [] }
  | sizeLineEnds => show Aw m (sizeLineEnds m); unfold sizeLineEnds; (repeat' split); all_goals first | exact .inl rfl | exact .inr ⟨rfl, rfl⟩
  | _ => exact .inl rfl
theorem aw_inMethod (m : Msg) (c : UInt8) : Aw m (inMethod m c) := by
  unfold inMethod
  repeat' split
  · exact .inl (keep_at m c)
  · exact .inl rfl
  · exact .inr ⟨rfl, rfl⟩
theorem aw_inName (m : Msg) (c : UInt8) : Aw m (inName m c) := by
  unfold inName
  repeat' split
  · exact .inl (keep_at m _)
  · exact .inl rfl
  · exact .inr ⟨rfl, rfl⟩
theorem aw_takeDo (m : Msg) (t : Tk) (c : UInt8) : Aw m (takeDo t m c) := by
  cases t with
  | no => exact .inl rfl
  | ahead => show Aw m (ahead m c); unfold ahead; split; exact .inl rfl; exact aw_inMethod { m with bound := m.at_ + 2048 } c
  | inMethod => exact aw_inMethod m c
  | inTarget => show Aw m (inTarget m c); unfold inTarget; (repeat' split); all_goals first | exact .inl rfl | exact .inr ⟨rfl, rfl⟩ | exact .inl (keep_at m c)
  | inVersion =>
    show Aw m (inVersion m c)
    unfold inVersion
    repeat' split
    · exact .inr ⟨rfl, rfl⟩
    · exact .inl (keep_at m c)
    · exact .inr ⟨rfl, rfl⟩
    · have := aw_thenDo { keep m c with newer := decide ((keep m c).word = wNewer) } m.th
      rcases this with e | e
      · exact .inl (e.trans (keep_at m c))
      · exact .inr e
  | lineEnd => show Aw m (lineEnd m c); unfold lineEnd; split; exact .inl rfl; exact .inr ⟨rfl, rfl⟩
  | lineFeed => show Aw m (lineFeed m c); unfold lineFeed; split; exact aw_thenDo m _; exact .inr ⟨rfl, rfl⟩
  | atLine => show Aw m (atLine m c); unfold atLine; (repeat' split); exact .inl rfl; exact .inr ⟨rfl, rfl⟩; exact aw_inName { m with lines := m.lines + 1 } c
  | inName => exact aw_inName m c
  | inValue => show Aw m (inValue m c); unfold inValue; (repeat' split); all_goals first | exact .inl rfl | exact .inr ⟨rfl, rfl⟩ | exact .inl (keep_at m c)
  | inSize => show Aw m (inSize m c); unfold inSize; (repeat' split); all_goals first | exact .inl rfl | exact .inr ⟨rfl, rfl⟩
  | inExt => show Aw m (inExt m c); unfold inExt; (repeat' split); all_goals first | exact .inl rfl | exact .inr ⟨rfl, rfl⟩
  | blankA => show Aw m (blankA m c); unfold blankA; split; exact .inl rfl; exact .inr ⟨rfl, rfl⟩
  | inStatus => show Aw m (inStatus m c); unfold inStatus; (repeat' split); all_goals first | exact .inl rfl | exact .inr ⟨rfl, rfl⟩
  | blankB => show Aw m (blankB m c); unfold blankB; split; exact .inl rfl; exact .inr ⟨rfl, rfl⟩
  | inReason => show Aw m (inReason m c); unfold inReason; (repeat' split); all_goals first | exact .inl rfl | exact .inr ⟨rfl, rfl⟩
/-- What a machine has read that is not over. -/
def Pl (m : Msg) (f N : Nat) : Prop := over m = true ∨ m.at_ = N ∧ m.begin = f
/-- A request as the document tells it. -/
def rqOf (z : Nat × (List UInt8 × List UInt8 × Nat × List (List UInt8 × List UInt8)) × Nat × List UInt8 × Option (List (List UInt8 × List UInt8) × Nat)) : Rq :=
  ⟨z.2.1.1, z.2.1.2.1, z.2.1.2.2.2.map hdOf, z.2.2.2.1, endsD (z.2.1.2.2.2.map hdOf) (decide (z.2.1.2.2.1 = 11))⟩
theorem whole_of {m : Msg} (h1 : over m = true) (h2 : m.fErr = 0) : whole m = true := by unfold whole; rw [h1, h2]; rfl
theorem whole_not {m : Msg} (h : over m = false ∨ m.fErr ≠ 0) : whole m = false := by
  unfold whole
  rcases h with h | h
  · rw [h]; rfl
  · simp [h]
theorem newReq_over (f : Nat) : over (newReq f) = false := rfl
theorem fd_ok {S r : List UInt8} {f k : Nat} {z : Nat × (List UInt8 × List UInt8 × Nat × List (List UInt8 × List UInt8)) × Nat × List UInt8 × Option (List (List UInt8 × List UInt8) × Nat)} (h : requD (S.drop f) f = .ok z r k) (hf : f ≤ S.length) (hk : k ≤ S.length) (hr : r = S.drop k) :
    fd (newReq f) (S.drop f) = (rqOf z :: (fd (if (rqOf z).last then zero else newReq k) (S.drop k)).1, (fd (if (rqOf z).last then zero else newReq k) (S.drop k)).2) ∧ f < k := by
  have hs := requ_sim f (S.drop f)
  rw [h] at hs
  obtain ⟨h1, h2⟩ := hs
  have ho := bfK_over (reqG f z.1 z.2.1 z.2.2.1) z.2.2.2 k
  obtain ⟨p1, p2, p3, p4, p5, p6, p7⟩ := bfK_parts (reqG f z.1 z.2.1 z.2.2.1) z.2.2.2 k
  rw [rdD_over ho] at h2
  have hne : S.drop f ≠ [] := fun e => by rw [e] at h; cases h
  have hpos := rd_pos (newReq_over f) hne
  have hw : whole (rd (newReq f) (S.drop f)).1 = true := by
    rw [h2]
    exact whole_of ho (p1.trans rfl)
  rw [fd_rd (newReq_over f) _ hne, if_pos hw]
  have hrl : r.length = S.length - k := by rw [hr, List.length_drop]
  have hll : (S.drop f).length = S.length - f := List.length_drop
  have hk0 : 0 < k := by
    rw [h2] at hpos
    have hpos : 0 < 0 + ((S.drop f).length - r.length) := hpos
    omega
  have hat : (bfK (reqG f z.1 z.2.1 z.2.2.1) z.2.2.2 k).at_ = k := by
    obtain ⟨b, y⟩ := z.2.2.2
    cases y with
    | none => rfl
    | some y => show k - 1 + 1 = k; omega
  have hrq : req (bfK (reqG f z.1 z.2.1 z.2.2.1) z.2.2.2 k) = rqOf z := by
    unfold req rqOf
    rw [p2, p3, p5, p6, p7]
    rfl
  have hgo : goOn (bfK (reqG f z.1 z.2.1 z.2.2.1) z.2.2.2 k) = if (rqOf z).last then zero else newReq k := by
    unfold goOn
    rw [← hrq, hat]
    rfl
  rw [h2] at hpos
  have hpos : 0 < 0 + ((S.drop f).length - r.length) := hpos
  have hfk : f < k := by omega
  have hdr : (S.drop f).drop (0 + ((S.drop f).length - r.length)) = S.drop k := by
    rw [List.drop_drop, hll, hrl]
    congr 1
    omega
  rw [h2]
  show (req _ :: (fd (goOn _) _).1, _) = _ ∧ _
  rw [hdr, hrq, hgo]
  exact ⟨rfl, hfk⟩
theorem fd_bad {l : List UInt8} {f a e : Nat} (h : requD l f = .bad a e) (he : e ≠ 0) : ∃ m, fd (newReq f) l = ([], m) ∧ over m = true ∧ m.fErr = e ∧ m.fAt = a := by
  have hs := requ_sim f l
  rw [h] at hs
  obtain ⟨h1, h2, h3, h4⟩ := (hs : Bad _ _ _)
  have hne : l ≠ [] := fun e => by rw [e] at h; cases h
  have ho := over_of h1 h2
  refine ⟨(rd (newReq f) l).1, ?_, ho, h4, h3⟩
  rw [fd_rd (newReq_over f) _ hne, if_neg (by rw [whole_not (.inr (by rw [h4]; exact he))]; decide), fd_over ho]
theorem fd_more {l : List UInt8} {f : Nat} (h : requD l f = .more) : ∃ m, fd (newReq f) l = ([], m) ∧ over m = false ∧ m.fErr = 0 ∧ m = (rd (newReq f) l).1 ∧ (rd (newReq f) l).2 = l.length := by
  have hs := requ_sim f l
  rw [h] at hs
  obtain ⟨h1, h2, h3⟩ := hs
  refine ⟨(rd (newReq f) l).1, ?_, h2, h1, rfl, h3⟩
  by_cases hne : l = []
  · subst hne; rfl
  · rw [fd_rd (newReq_over f) _ hne, if_neg (by rw [whole_not (.inl h2)]; decide), h3, List.drop_length]
    rfl
theorem Pl.bite {m : Msg} {f N : Nat} (h : Pl m f N) (ho : over m = false) (c : UInt8) : Pl (bite m c) f (N + 1) := by
  obtain ⟨h1, h2⟩ : m.at_ = N ∧ m.begin = f := by
    rcases h with e | e
    · rw [ho] at e; cases e
    · exact e
  unfold Wb.bite
  split
  · exact .inr ⟨by show m.at_ + 1 = N + 1; rw [h1], h2⟩
  · unfold step
    split
    · exact .inl rfl
    · rcases fw_takeDo m m.tk c with ⟨_, e⟩ | ⟨e1, e2, _⟩
      · rcases aw_takeDo m m.tk c with e3 | ⟨e1, e2⟩
        · exact .inr ⟨by show (takeDo m.tk m c).2.at_ + 1 = N + 1; rw [e3, h1], e.trans h2⟩
        · exact .inl (over_of e1 e2)
      · exact .inl (over_of e1 e2)
theorem Pl.rd {m : Msg} {f N : Nat} (h : Pl m f N) : ∀ (l : List UInt8), Pl (rd m l).1 f (N + (rd m l).2) := by
  intro l
  induction l generalizing m N with
  | nil => exact h
  | cons c r ih =>
    cases ho : over m with
    | true => rw [rdD_over ho]; exact .inl ho
    | false =>
      rw [rdD_cons ho]
      have := ih (h.bite ho c)
      rw [show N + 1 + (Wb.rd (Wb.bite m c) r).2 = N + ((Wb.rd (Wb.bite m c) r).2 + 1) by omega] at this
      exact this
/-- The document's parser, and the machine that has read the same. -/
structure DInv (m : Msg) (S : List UInt8) (f at_ e : Nat) (ov : Bool) : Prop where
  le : f ≤ S.length
  is : (e = 0 ∧ ov = false ∧ at_ = 0 ∧ fd (newReq f) (S.drop f) = ([], m) ∧ over m = false ∧ m.fErr = 0 ∧ m.at_ = S.length ∧ m.begin = f) ∨ (e ≠ 0 ∧ ov = false ∧ m.fErr = e ∧ m.fAt = at_ ∧ over m = true) ∨ (e = 0 ∧ at_ = 0 ∧ ov = true ∧ m = zero)
theorem dinv_start : DInv (newReq 0) [] 0 0 0 false := ⟨Nat.le_refl _, .inl ⟨rfl, rfl, rfl, rfl, rfl, rfl, rfl, rfl⟩⟩
theorem DInv.more {S : List UInt8} {f : Nat} (hf : f ≤ S.length) (h : requD (S.drop f) f = .more) : ∃ m, fd (newReq f) (S.drop f) = ([], m) ∧ DInv m S f 0 0 false := by
  obtain ⟨m, h1, h2, h3, h4, h5⟩ := fd_more h
  have hp : Pl (newReq f) f f := .inr ⟨rfl, rfl⟩
  have hq := hp.rd (S.drop f)
  rw [← h4, h5] at hq
  rcases hq with e | ⟨e1, e2⟩
  · rw [h2] at e; cases e
  · exact ⟨m, h1, hf, .inl ⟨rfl, rfl, rfl, h1, h2, h3, by rw [e1, List.length_drop]; omega, e2⟩⟩
theorem DInv.bad {S : List UInt8} {f a e : Nat} (hf : f ≤ S.length) (h : requD (S.drop f) f = .bad a e) (he : e ≠ 0) : ∃ m, fd (newReq f) (S.drop f) = ([], m) ∧ DInv m S f a e false := by
  obtain ⟨m, h1, h2, h3, h4⟩ := fd_bad h he
  exact ⟨m, h1, hf, .inr (.inl ⟨he, rfl, h3, h4, h2⟩)⟩
/-- Nothing is heard any more. -/
theorem DInv.shut {m : Msg} {S : List UInt8} {f at_ e : Nat} {ov : Bool} (h : DInv m S f at_ e ov) (hs : e ≠ 0 ∨ ov = true) (b : List UInt8) : fd m b = ([], m) := by
  rcases h.is with ⟨e1, e2, _⟩ | ⟨_, _, _, _, e3⟩ | ⟨_, _, _, e3⟩
  · rcases hs with e | e
    · exact absurd e1 e
    · rw [e2] at e; cases e
  · exact fd_over e3 b
  · rw [e3]; exact fd_over rfl b
/-- What is read of the bytes that come is what is read of all from where the request began. -/
theorem DInv.fed {m : Msg} {S : List UInt8} {f at_ : Nat} (h : DInv m S f at_ 0 false) (b : List UInt8) : fd m b = fd (newReq f) ((S ++ b).drop f) ∧ at_ = 0 := by
  rcases h.is with ⟨_, _, e0, e1, _⟩ | ⟨e1, _⟩ | ⟨_, _, e1, _⟩
  · rw [List.drop_append_of_le_length h.le, fd_app, e1]
    exact ⟨rfl, e0⟩
  · exact absurd rfl e1
  · cases e1
theorem DInv.told {m : Msg} {S : List UInt8} {f at_ e : Nat} {ov : Bool} (h : DInv m S f at_ e ov) : m.fErr = e ∧ (if m.fErr = 0 then 0 else m.fAt) = at_ ∧ (if over m then 0 else (m.at_ : Int) - m.begin) = if e ≠ 0 ∨ ov = true then 0 else (S.length : Int) - f := by
  rcases h.is with ⟨h1, h2, h3, h4, h5, h6, h7, h8⟩ | ⟨h1, h2, h3, h4, h5⟩ | ⟨h1, h2, h3, h4⟩
  · refine ⟨h6.trans h1.symm, by rw [if_pos h6, h3], ?_⟩
    rw [h5, if_neg (by decide), if_neg (by rw [h1, h2]; simp), h7, h8]
  · refine ⟨h3, by rw [if_neg (by rw [h3]; exact h1), h4], ?_⟩
    rw [h5, if_pos rfl, if_pos (.inl h1)]
  · subst h4
    exact ⟨h1.symm, by rw [h2]; rfl, (if_pos (show over zero = true from rfl)).trans (if_pos (.inr h3)).symm⟩
end Go.Wb
namespace Go.Wb
open Go.RowKit Go.Proofs Go.Wi
theorem Hs.keepW {w w' : World} {V : Value} {L : List (List UInt8 × List UInt8)} (h : Hs w V L) (hk : ∀ k, V.ownBlock = some k → w'.heap[k]? = w.heap[k]?) : Hs w' V L := by
  have hz := h.nz
  obtain ⟨ad, cap, rfl, h1⟩ := h.ex
  refine ⟨⟨ad, cap, rfl, ?_⟩, hz⟩
  rcases h1 with h1 | ⟨g, o, rfl, hg, h1⟩
  · exact .inl h1
  · have e := hk g rfl
    refine .inr ⟨g, o, rfl, ?_, fun j hj => ⟨(World.cell?_of_block (w := w) (a := ⟨g, o + j * 2, none⟩) e).trans (h1 j hj).1, (World.cell?_of_block (w := w) (a := ⟨g, o + j * 2 + 1, none⟩) e).trans (h1 j hj).2⟩⟩
    rw [Array.getElem?_eq_getElem hg] at e
    exact block_lt e
theorem cat2w (a b : List UInt8) : (⟨a.toArray⟩ : ByteArray) ++ ⟨b.toArray⟩ = ⟨(a ++ b).toArray⟩ := by
  apply ByteArray.ext
  simp [ByteArray.data_append]
end Go.Wb
namespace Go.Proofs
open Go.RowKit Go.Wi Go.Wb
/-- A request that lies in blocks of which P holds. -/
structure Tryz.PrW (w : World) (P : Nat → Prop) (V : Value) (p : Pr) : Prop where
  heads : Hs w p.vh p.rq.headers
  body : Bs w p.vb p.rq.body
  ph : ∀ k, p.vh.ownBlock = some k → P k ∧ V.ownBlock ≠ some k ∧ k < w.heap.size
  pb : ∀ k, p.vb.ownBlock = some k → P k ∧ V.ownBlock ≠ some k ∧ k < w.heap.size
/-- Requests in a row. -/
structure Tryz.RlW (w : World) (P : Nat → Prop) (V : Value) (rs : List Rq) : Prop where
  ex : ∃ ps : List Pr, rs = ps.map (·.rq) ∧ w.ownsRow 0 56 5 V ps.length (prCells ps) ∧ (∀ k, V.ownBlock = some k → P k) ∧ ∀ p ∈ ps, Tryz.PrW w P V p
theorem Tryz.PrW.keep {w w' : World} {P P' : Nat → Prop} {V : Value} {p : Pr} (h : Tryz.PrW w P V p) (hs : w.heap.size ≤ w'.heap.size) (hk : ∀ k, k < w.heap.size → P k → w'.heap[k]? = w.heap[k]? ∧ P' k) : Tryz.PrW w' P' V p :=
  ⟨Hs.keepW h.heads fun k e => (hk k (h.ph k e).2.2 (h.ph k e).1).1, h.body.keep fun k e => (hk k (h.pb k e).2.2 (h.pb k e).1).1, fun k e => ⟨(hk k (h.ph k e).2.2 (h.ph k e).1).2, (h.ph k e).2.1, Nat.lt_of_lt_of_le (h.ph k e).2.2 hs⟩, fun k e => ⟨(hk k (h.pb k e).2.2 (h.pb k e).1).2, (h.pb k e).2.1, Nat.lt_of_lt_of_le (h.pb k e).2.2 hs⟩⟩
theorem Tryz.RlW.keep {w w' : World} {P P' : Nat → Prop} {V : Value} {rs : List Rq} (h : Tryz.RlW w P V rs) (hs : w.heap.size ≤ w'.heap.size) (hk : ∀ k, k < w.heap.size → P k → w'.heap[k]? = w.heap[k]? ∧ P' k) : Tryz.RlW w' P' V rs := by
  obtain ⟨ps, h1, h2, h3, h4⟩ := h.ex
  exact ⟨ps, h1, row_keep h2 fun k e => (hk k (h2.lt k e).2 (h3 k e)).1, fun k e => (hk k (h2.lt k e).2 (h3 k e)).2, fun p hp => Tryz.PrW.keep (h4 p hp) hs hk⟩
theorem Tryz.RlW.nil (w : World) (P : Nat → Prop) : Tryz.RlW w P (.slice none 0 0) [] := ⟨[], rfl, World.ownsRow_nil _ _ _ _, (fun k e => by cases e), (fun p hp => by cases hp)⟩
theorem Tryz.RlW.is {w : World} {P : Nat → Prop} {V : Value} {rs : List Rq} (h : Tryz.RlW w P V rs) : ∃ ad cap, V = .slice ad rs.length cap := by
  obtain ⟨ps, h1, h2, _⟩ := h.ex
  have hl : rs.length = ps.length := by rw [h1, List.length_map]
  rcases h2.2 with ⟨e1, e2⟩ | ⟨g, cap, _, e1, _⟩
  · exact ⟨Option.none, 0, by rw [hl, e2]; exact e1⟩
  · exact ⟨_, cap, by rw [hl]; exact e1⟩
theorem Tryz.RlW.lt {w : World} {P : Nat → Prop} {V : Value} {rs : List Rq} (h : Tryz.RlW w P V rs) : ∀ k, V.ownBlock = some k → P k ∧ k < w.heap.size := by
  obtain ⟨ps, _, h2, h3, _⟩ := h.ex
  exact fun k e => ⟨h3 k e, (h2.lt k e).2⟩
/-- 'append' of a request. -/
theorem Tryz.appReqW {ops : Array Oper} {rest : List Oper} {o : Oper} {a : Act} {Q : Exit → Act → World → Prop} (hgd : o.guard = none) (s y : Operand)
    (ho : o.op = .call { callee := .builtin .append, args := #[s, y], argTypes := #[43, 43] })
    {w : World} {P P' : Nat → Prop} {V : Value} {rs : List Rq} (hR : Tryz.RlW w P V rs) (p : Pr) (hp : Tryz.PrW w P V p) (hs : a.eval s = V) {H : Nat} (hy : a.eval y = .slice (some ⟨H, 0, none⟩) 1 1) (hH : H = w.heap.size) (hlen : rs.length + 1 ≤ 1000000000000)
    (hP : ∀ k, P k → P' k) (hP2 : ∀ k, w.heap.size ≤ k → P' k)
    (hK : ∀ g n cap w1, Tryz.RlW w1 P' (.slice (some ⟨g, 0, none⟩) n cap) (rs ++ [p.rq]) → Wo (fun k => V.ownBlock = some k) w w1 → wpList Tryz.prog ops Q rest (a.put o.dst (.slice (some ⟨g, 0, none⟩) n cap)) w1) :
    wpList Tryz.prog ops Q (o :: rest) a (w.alloc (.cells #[.string ⟨p.rq.method.toArray⟩, .string ⟨p.rq.target.toArray⟩, p.vh, p.vb, .bool p.rq.last] 56)) := by
  subst hH
  obtain ⟨ps, h1, h2, h3, h4⟩ := hR.ex
  have hpl : ps.length = rs.length := by rw [h1, List.length_map]
  obtain ⟨i0, hi0, hz0, hz1, hz2⟩ := info_parts Tryz.infoReq
  have hn := heap_alloc_new w (.cells #[.string ⟨p.rq.method.toArray⟩, .string ⟨p.rq.target.toArray⟩, p.vh, p.vb, .bool p.rq.last] 56)
  have hb : Below w.heap.size w (w.alloc (.cells #[.string ⟨p.rq.method.toArray⟩, .string ⟨p.rq.target.toArray⟩, p.vh, p.vb, .bool p.rq.last] 56)) := (Below.refl w.heap.size w).alloc (Nat.le_refl _) _
  have hrow1 := row_keep h2 fun k e => hb.block k (h2.lt k e).2
  have hsz : (w.alloc (.cells #[.string ⟨p.rq.method.toArray⟩, .string ⟨p.rq.target.toArray⟩, p.vh, p.vb, .bool p.rq.last] 56)).heap.size = w.heap.size + 1 := by simp
  refine wpList_append_lies _ hgd s y 43 ho 0 56 i0 _ 5 88 Tryz.underlying43 hi0 hz0 hz1 hz2 rfl (by omega) V ps.length (prCells ps) hs hrow1 ⟨w.heap.size, 0, none⟩ 1 1 p.cells hy rfl (World.news_of_block (cs := #[.string ⟨p.rq.method.toArray⟩, .string ⟨p.rq.target.toArray⟩, p.vh, p.vb, .bool p.rq.last]) hn) (fun u hu => by
    simp only [Pr.cells, List.mem_cons, List.not_mem_nil, or_false] at hu
    rcases hu with rfl | rfl | rfl | rfl | rfl <;> rfl) (by omega) (by unfold maxLen; omega) (by omega) (by omega) _ rfl ?_
  intro g cap w' hown hg hat hlt
  have hw : Wo (fun k => V.ownBlock = some k) w w' := (Wo.ofBelow hb).grown hg fun k e => .inl e
  have hl : V.ownBlock = some g ∨ w.heap.size ≤ g := by
    rcases hat with e1 | e1
    · exact .inl e1
    · exact .inr (by show w.heap.size ≤ g; rw [e1, hsz]; omega)
  have hne : ∀ k, k < w.heap.size → V.ownBlock ≠ some k → (Value.slice (some ⟨g, 0, none⟩) (ps.length + 1) cap).ownBlock ≠ some k := fun k hk hv e => by
    cases e
    rcases hl with e1 | e1
    · exact hv e1
    · have : g < w.heap.size := hk
      omega
  have hone : ∀ q : Pr, Tryz.PrW w P V q → Tryz.PrW w' P' (.slice (some ⟨g, 0, none⟩) (ps.length + 1) cap) q := fun q hq =>
    ⟨Hs.keepW hq.heads fun k e => hw.block k (hq.ph k e).2.2 (hq.ph k e).2.1, hq.body.keep fun k e => hw.block k (hq.pb k e).2.2 (hq.pb k e).2.1, fun k e => ⟨hP k (hq.ph k e).1, hne k (hq.ph k e).2.2 (hq.ph k e).2.1, Nat.lt_of_lt_of_le (hq.ph k e).2.2 hw.size⟩, fun k e => ⟨hP k (hq.pb k e).1, hne k (hq.pb k e).2.2 (hq.pb k e).2.1, Nat.lt_of_lt_of_le (hq.pb k e).2.2 hw.size⟩⟩
  refine hK g _ cap w' ⟨ps ++ [p], by rw [List.map_append, ← h1]; rfl, ?_, fun k e => ?_, fun q hq => ?_⟩ hw
  · rw [List.length_append, prCells_app]
    exact hown
  · cases e
    rcases hl with e1 | e1
    · exact hP g (h3 g e1)
    · exact hP2 g e1
  · rcases List.mem_append.1 hq with hq | hq
    · exact hone q (h4 q hq)
    · rw [List.mem_singleton.1 hq]; exact hone p hp
end Go.Proofs
