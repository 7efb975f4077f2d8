/-
  The document's roots: a power of a number held against another number.
-/
import Derived.Test.YtkfmfdnfjeofiaaDoorHk
namespace Go.Dg
open Go.RowKit Go.Wi
def vB (al L nx : List Nat) (a b c : Nat) : Nat := ((nx.getD (a + b) 0 + al.getD a 0 * L.getD b 0 % 18446744073709551616) % 18446744073709551616 + c) % 18446744073709551616
structure Nc where
  nx : List Nat
  c : Nat
def inB (al L : List Nat) (a : Nat) : Nat → Nc → Nc
  | 0, s => s
  | b + 1, s => let r := inB al L a b s; ⟨r.nx.set (a + b) (vB al L r.nx a b r.c % 4294967296), vB al L r.nx a b r.c / 4294967296⟩
def inA (al L : List Nat) : Nat → List Nat → List Nat
  | 0, nx => nx
  | a + 1, nx => let r := inB al L a 2 ⟨inA al L a nx, 0⟩; r.nx.set (a + 2) ((r.nx.getD (a + 2) 0 + r.c) % 18446744073709551616)
def pw (L : List Nat) : Nat → List Nat
  | 0 => [1]
  | i + 1 => inA (pw L i) L (2 * i + 1) (List.replicate (2 * i + 3) 0)
/-- From the last limb down, so many. -/
def whl (al : List Nat) : Nat → Nat
  | 0 => 0
  | t + 1 => (whl al t * 4294967296 % 18446744073709551616 + al.getD (al.length - 1 - t) 0) % 18446744073709551616
def lessP (x n p : Nat) : Bool := decide (whl (pw [x % 4294967296, x / 4294967296] n) (n + 1) < p)
theorem inB_len (al L : List Nat) (a : Nat) (s : Nc) : ∀ b, (inB al L a b s).nx.length = s.nx.length
  | 0 => rfl
  | b + 1 => by simp only [inB, List.length_set]; exact inB_len al L a s b
theorem inA_len (al L nx : List Nat) : ∀ a, (inA al L a nx).length = nx.length
  | 0 => rfl
  | a + 1 => by simp only [inA, List.length_set, inB_len]; exact inA_len al L nx a
theorem pw_len (L : List Nat) : ∀ i, (pw L i).length = 2 * i + 1
  | 0 => rfl
  | i + 1 => by simp only [pw, inA_len, List.length_replicate]; omega
/-- Numbers in a block. -/
def Au (T : TypeId) (w : World) (g : Nat) (l : List Nat) : Prop := w.heap[g]? = some (.cells (l.map fun (n : Nat) => Value.int .u64 (n : Int)).toArray T (0, 0))
theorem Au.cell {T : TypeId} {w : World} {g : Nat} {l : List Nat} (h : Au T w g l) {i : Nat} (hi : i < l.length) : w.cell? ⟨g, i, none⟩ = some (.int .u64 ((l.getD i 0 : Nat) : Int)) := by
  rw [cell_of_row _ _ _ _ _ _ h]
  simp [hi]
theorem Au.frozen {T : TypeId} {w : World} {g : Nat} {l : List Nat} (h : Au T w g l) (i : Nat) : w.frozen? ⟨g, i, none⟩ = false := by
  simp [World.frozen?, show w.heap[g]? = _ from h]
theorem Au.set {T : TypeId} {w : World} {g : Nat} {l : List Nat} (h : Au T w g l) (i v : Nat) (z : Int) (hz : z = v) : Au T (w.setCell ⟨g, i, none⟩ (.int .u64 z)) g (l.set i v) := by
  subst hz
  obtain ⟨hlt, hk⟩ := Array.getElem?_eq_some_iff.1 h
  show (w.heap.modify g _)[g]? = _
  rw [Array.getElem?_eq_getElem (by rw [Array.size_modify]; exact hlt), Array.getElem_modify_self, hk]
  simp [List.map_set]
theorem Au.keep {T : TypeId} {w w' : World} {g : Nat} {l : List Nat} (h : Au T w g l) (e : w'.heap[g]? = w.heap[g]?) : Au T w' g l := e.trans h
theorem Au.lt {T : TypeId} {w : World} {g : Nat} {l : List Nat} (h : Au T w g l) : g < w.heap.size := block_lt h
/-- All of it while two numbers are multiplied. -/
structure Mu (T : TypeId) (w0 : World) (gl ga gn : Nat) (L al nx : List Nat) (w : World) : Prop where
  b : Below w0.heap.size w0 w
  l : Au T w gl L
  a : Au T w ga al
  n : Au T w gn nx
theorem Mu.drewN {T : TypeId} {w0 : World} {gl ga gn : Nat} {L al nx : List Nat} {w : World} (h : Mu T w0 gl ga gn L al nx w) (n : Nat) : Mu T w0 gl ga gn L al nx (w.drewN n) := ⟨belowN h.b n, h.l, h.a, h.n⟩
theorem Mu.set {T : TypeId} {w0 : World} {gl ga gn : Nat} {L al nx : List Nat} {w : World} (h : Mu T w0 gl ga gn L al nx w) (h0 : w0.heap.size ≤ gn) (h1 : gl ≠ gn) (h2 : ga ≠ gn) (i v : Nat) (z : Int) (hz : z = v) : Mu T w0 gl ga gn L al (nx.set i v) (w.setCell ⟨gn, i, none⟩ (.int .u64 z)) :=
  ⟨h.b.setCell (p := ⟨gn, i, none⟩) h0 _, h.l.keep (Below.heap_setCell _ _ _ _ h1), h.a.keep (Below.heap_setCell _ _ _ _ h2), h.n.set i v z hz⟩
end Go.Dg
namespace Go.Proofs
open Go.RowKit Go.Wi Go.Dg
theorem Tryd.info64 : (Tryd.prog.info? 65).map (fun i => (i.zero, i.size, i.bytes)) = some (some (.int .u64 0), 1, 8) := by kernel_rfl
theorem Tryd.make64 {ops : Array Oper} {rest : List Oper} {o : Oper} {a : Act} {Q : Exit → Act → World → Prop} {w : World} (hgd : o.guard = none) (l c : Operand) (hop : o.op = Op.makeSlice 64 l c)
    (L : Int) (n : Nat) (hl : a.eval l = .int .i64 L) (hc : a.eval c = .int .i64 L) (hL : L = (n : Int)) (hn : n ≤ 1000000)
    (hK : ∀ w', Au 65 w' w.heap.size (List.replicate n 0) → Below w.heap.size w w' → wpList Tryd.prog ops Q rest (a.put o.dst (.slice (some ⟨w.heap.size, 0, none⟩) n n)) w') : wpList Tryd.prog ops Q (o :: rest) a w := by
  obtain ⟨i0, hi0, hz0, hz1, hz2⟩ := info_parts Tryd.info64
  refine wpList_make_full w hgd l c 64 hop w.heap.size 65 i0 (.int .u64 0) 1 Tryd.underlying64 hi0 hz0 hz1 .i64 .i64 L L n hl hc hL hL (by rw [hz2]; omega) (by unfold maxLen; omega) (Nat.le_refl _) ?_
  intro w' hown hg
  refine hK w' ?_ ((Below.refl _ w).grown hg (Nat.le_refl _) fun k e => by cases e)
  rcases hown.2 with ⟨e, _⟩ | ⟨g, cap, cur, e, _, hh, h1, h2, h3, h4⟩
  · cases e
  · cases e
    unfold Au
    rw [hh]
    have e1 : cur.toList = (madeCells (Value.int .u64 0).cells (n * 1)).toList := by
      rw [← h4, List.take_of_length_le (by simp; omega)]
    have e2 : (madeCells (Value.int .u64 0).cells (n * 1)).toList = (List.replicate n 0).map fun (n : Nat) => Value.int .u64 (n : Int) := by
      rw [show (Value.int .u64 0).cells = #[.int .u64 0] from rfl, toList_madeCells_one, Nat.mul_one]
      simp
    rw [e2] at e1
    rw [← e1]
set_option maxRecDepth 20000 in
set_option maxHeartbeats 1000000 in
theorem Tryd.less_any (x n p : Nat) (hn : n ≤ 1000) (hx : x < 18446744073709551616) (w : World) :
    Calls Tryd.prog 40 #[.int .u64 (x : Int), .int .i64 (n : Int), .int .u64 (p : Int)] w fun e w' => e = .returned (.bool (lessP x n p)) ∧ Below w.heap.size w w' := by
  go_enter Tryd.func40, Tryd.ntmps40
  obtain ⟨x1, hx1⟩ : ∃ x1 : Nat, x1 = x % 4294967296 := ⟨_, rfl⟩
  obtain ⟨x2, hx2⟩ : ∃ x2 : Nat, x2 = x / 4294967296 := ⟨_, rfl⟩
  have e1 : (x : Int) % 4294967296 = (x1 : Int) := by omega
  have e2 : IntKind.u64.wrap ((x : Int) / 4294967296) = (x2 : Int) := by rw [IntKind.wrap_u64]; omega
  have HR : Hid (lessP x n p = decide (whl (pw [x1, x2] n) (n + 1) < p)) := (by show _ = _; rw [hx1, hx2]; rfl)
  obtain ⟨L, hL⟩ : ∃ L : List Nat, L = [x1, x2] := ⟨_, rfl⟩
  have HL : Hid (L = [x1, x2]) := hL
  clear hx1 hx2 hL
  go_wp2
  go_loopw [8, 9] (fun v iv wr => ∃ (i ga N : Nat), v = .slice (some ⟨ga, 0, none⟩) N N ∧ iv = .int .i64 (i : Int) ∧ i ≤ n ∧ Hid (N = 2 * i + 1) ∧ Hid (w.heap.size < ga) ∧ Hid (Au 65 wr w.heap.size L) ∧ Hid (Au 65 wr ga (pw L i)) ∧ Hid (Below w.heap.size w wr)) (fun _ iv _ => n - (intOf iv).toNat)
  case atStart =>
    refine ⟨0, w.heap.size + 1, 1, rfl, rfl, by omega, rfl, ?_, ?_, ?_, ?_⟩
    · show w.heap.size < w.heap.size + 1
      omega
    · rw [HL.out]
      exact (Below.heap_alloc _ _ _ (by simp)).trans (heap_alloc_new w _)
    · have h := heap_alloc_new (w.alloc (.cells #[.int .u64 (x1 : Int), .int .u64 (x2 : Int)] 65)) (.cells #[.int .u64 1] 65)
      rw [World.size_alloc] at h
      exact h
    · exact ((Below.refl _ w).alloc (Nat.le_refl _) _).alloc (by rw [World.size_alloc]; omega) _
  case round =>
    obtain ⟨i, ga, N, rfl, rfl, hi, HN, Hga, HAl, HAa, Hw⟩ := hrel
    by_cases hlt : i < n
    · have q1 : (i : Int) < n := by omega
      obtain ⟨N2, hN2⟩ : ∃ N2 : Nat, N2 = N + 2 := ⟨_, rfl⟩
      have hNb : N ≤ 3000 := by have := HN.out; omega
      have e3 : (N : Int) + 2 = (N2 : Int) := by omega
      have HN2 : Hid (N2 = N + 2) := hN2
      have hN2b : N2 ≤ 1000000 := by omega
      clear hN2
      go_wp2_with (first | (refine Tryd.make64 rfl _ _ rfl _ N2 rfl rfl rfl hN2b ?_; intro w1 hA1 hb1; have HA1 : Hid _ := hA1; have HB1 : Hid _ := hb1; clear hA1 hb1) | fail)
      obtain ⟨G, hG⟩ : ∃ G, G = wr.heap.size := ⟨_, rfl⟩
      obtain ⟨AL, hAL⟩ : ∃ AL, AL = pw L i := ⟨_, rfl⟩
      have HAL : Hid (AL = pw L i) := hAL
      have HALn : Hid (AL.length = N) := (by show _ = _; rw [hAL, pw_len, HN.out])
      have hgG : w.heap.size < G := by rw [hG]; exact HAl.out.lt
      have haG : ga < G := by rw [hG]; exact HAa.out.lt
      have hLn : Hid (L.length = 2) := (by show _ = _; rw [HL.out]; rfl)
      have HM0 : Hid (Mu 65 w w.heap.size ga G L AL (List.replicate N2 0) w1) := (by
        have h1 := HB1.out
        refine ⟨Hw.out.trans (h1.mono Hw.out.size), HAl.out.keep (h1.block _ HAl.out.lt), ?_, ?_⟩
        · rw [hAL]
          exact HAa.out.keep (h1.block _ HAa.out.lt)
        · rw [hG]
          exact HA1.out)
      rw [← hG]
      clear HA1 HB1 HAl HAa Hw hG hAL wr
      go_loopw [11] (fun av wr => ∃ (a : Nat), av = .int .i64 (a : Int) ∧ a ≤ N ∧ Hid (Mu 65 w w.heap.size ga G L AL (inA AL L a (List.replicate N2 0)) wr)) (fun av _ => N - (intOf av).toNat)
      case atStart => exact ⟨0, rfl, by omega, HM0⟩
      case round =>
        clear HM0
        obtain ⟨a, rfl, ha, HM⟩ := hrel
        obtain ⟨NX, hNX⟩ : ∃ NX, NX = inA AL L a (List.replicate N2 0) := ⟨_, rfl⟩
        have HNX : Hid (NX = inA AL L a (List.replicate N2 0)) := hNX
        have HNXn : Hid (NX.length = N2) := (by show _ = _; rw [hNX, inA_len, List.length_replicate])
        rw [← hNX] at HM
        clear hNX
        by_cases halt : a < N
        · have q2 : (a : Int) < N := by omega
          have q2b : (0 : Int) ≤ a := by omega
          go_wp2
          go_loopw [12, 13] (fun cv bv wr => ∃ (b c : Nat) (nx : List Nat), cv = .int .u64 (c : Int) ∧ bv = .int .i64 (b : Int) ∧ b ≤ 2 ∧ Hid (inB AL L a b ⟨NX, 0⟩ = ⟨nx, c⟩) ∧ Hid (Mu 65 w w.heap.size ga G L AL nx wr)) (fun _ bv _ => 2 - (intOf bv).toNat)
          case atStart => exact ⟨0, 0, NX, rfl, rfl, by omega, rfl, HM⟩
          case round =>
            clear HM
            obtain ⟨b, c, nx, rfl, rfl, hb, Hr, HM⟩ := hrel
            have Hnxl : Hid (nx.length = N2) := (by
              have h1 := inB_len AL L a ⟨NX, 0⟩ b
              rw [Hr.out] at h1
              exact h1.trans HNXn.out)
            by_cases hblt : b < 2
            · have q3 : (b : Int) < 2 := by omega
              have q3b : (0 : Int) ≤ b := by omega
              obtain ⟨ab, hab⟩ : ∃ ab : Nat, ab = a + b := ⟨_, rfl⟩
              have f1 : (a : Int) + (b : Int) = (ab : Int) := by omega
              have q4 : (ab : Int) < N2 := by have := HN2.out; omega
              have q4b : (0 : Int) ≤ ab := by omega
              have c1 := HM.out.n.cell (i := ab) (by rw [Hnxl.out]; omega)
              have c1f := HM.out.n.frozen ab
              have c2 := HM.out.a.cell (i := a) (by rw [HALn.out]; exact halt)
              have c3 := HM.out.l.cell (i := b) (by rw [hLn.out]; exact hblt)
              obtain ⟨y1, hy1⟩ : ∃ y1 : Nat, y1 = nx.getD ab 0 := ⟨_, rfl⟩
              obtain ⟨y2, hy2⟩ : ∃ y2 : Nat, y2 = AL.getD a 0 := ⟨_, rfl⟩
              obtain ⟨y3, hy3⟩ : ∃ y3 : Nat, y3 = L.getD b 0 := ⟨_, rfl⟩
              rw [← hy1] at c1
              rw [← hy2] at c2
              rw [← hy3] at c3
              obtain ⟨m, hm⟩ : ∃ m : Nat, m = y2 * y3 % 18446744073709551616 := ⟨_, rfl⟩
              have f2 : IntKind.u64.wrap ((y2 : Int) * (y3 : Int)) = (m : Int) := by rw [IntKind.wrap_u64, hm]; simp
              obtain ⟨m2, hm2⟩ : ∃ m2 : Nat, m2 = (y1 + m) % 18446744073709551616 := ⟨_, rfl⟩
              have f3 : IntKind.u64.wrap ((y1 : Int) + (m : Int)) = (m2 : Int) := by rw [IntKind.wrap_u64, hm2]; simp
              obtain ⟨v, hv⟩ : ∃ v : Nat, v = (m2 + c) % 18446744073709551616 := ⟨_, rfl⟩
              have f4 : IntKind.u64.wrap ((m2 : Int) + (c : Int)) = (v : Int) := by rw [IntKind.wrap_u64, hv]; simp
              obtain ⟨r, hr⟩ : ∃ r : Nat, r = v % 4294967296 := ⟨_, rfl⟩
              have f5 : (v : Int) % 4294967296 = (r : Int) := by omega
              obtain ⟨t, ht⟩ : ∃ t : Nat, t = v / 4294967296 := ⟨_, rfl⟩
              have f6 : IntKind.u64.wrap ((v : Int) / 4294967296) = (t : Int) := by rw [IntKind.wrap_u64]; omega
              have Hnx : Hid (inB AL L a (b + 1) ⟨NX, 0⟩ = ⟨nx.set ab r, t⟩) := (by
                have e : vB AL L nx a b c = v := by
                  unfold vB
                  rw [← hab, ← hy1, ← hy2, ← hy3, ← hm, ← hm2, ← hv]
                show _ = _
                simp only [inB, Hr.out]
                rw [e, ← hr, ← ht, ← hab])
              clear hab hy1 hy2 hy3 hm hm2 hv hr ht
              go_wp2
              go_quiet (fail)
              go_wp2
              refine ⟨⟨b + 1, t, nx.set ab r, rfl, by go_num, by omega, Hnx, (HM.out.drewN nq).set (by omega) (by omega) (by omega) ab r _ rfl⟩, ?_⟩
              simp [intOf]; omega
            · have q3 : ¬ (b : Int) < 2 := by omega
              obtain rfl : b = 2 := by omega
              obtain ⟨a2, ha2⟩ : ∃ a2 : Nat, a2 = a + 2 := ⟨_, rfl⟩
              have f1 : (a : Int) + 2 = (a2 : Int) := by omega
              have q4 : (a2 : Int) < N2 := by have := HN2.out; omega
              have q4b : (0 : Int) ≤ a2 := by omega
              have c1 := HM.out.n.cell (i := a2) (by rw [Hnxl.out]; omega)
              have c1f := HM.out.n.frozen a2
              obtain ⟨y1, hy1⟩ : ∃ y1 : Nat, y1 = nx.getD a2 0 := ⟨_, rfl⟩
              rw [← hy1] at c1
              obtain ⟨v, hv⟩ : ∃ v : Nat, v = (y1 + c) % 18446744073709551616 := ⟨_, rfl⟩
              have f4 : IntKind.u64.wrap ((y1 : Int) + (c : Int)) = (v : Int) := by rw [IntKind.wrap_u64, hv]; simp
              have Hnx : Hid (inA AL L (a + 1) (List.replicate N2 0) = nx.set a2 v) := (by
                show _ = _
                simp only [inA]
                rw [← HNX.out, Hr.out]
                show nx.set (a + 2) ((nx.getD (a + 2) 0 + c) % _) = _
                rw [← ha2, ← hy1, ← hv])
              clear ha2 hy1 hv
              go_wp2
              refine ⟨⟨a + 1, by go_num, by omega, ?_⟩, ?_⟩
              · rw [Hnx.out]
                exact HM.out.set (by omega) (by omega) (by omega) a2 v _ rfl
              · simp [intOf]; omega
        · have q2 : ¬ (a : Int) < N := by omega
          obtain rfl : a = N := by omega
          go_wp2
          refine ⟨⟨i + 1, G, N2, ⟨rfl, rfl⟩, by go_num, by omega, ?_, ?_, HM.out.l, ?_, HM.out.b⟩, ?_⟩
          · have h1 := HN.out
            have h2 := HN2.out
            show _ = _
            omega
          · exact hgG
          · have h3 : pw L (i + 1) = NX := by
              rw [HNX.out, HAL.out, HN2.out, HN.out]
              rfl
            rw [h3]
            exact HM.out.n
          · simp [intOf]; omega
    · have q1 : ¬ (i : Int) < n := by omega
      obtain rfl : i = n := by omega
      obtain ⟨AL, hAL⟩ : ∃ AL, AL = pw L i := ⟨_, rfl⟩
      rw [← hAL] at HAa
      have HALn : Hid (AL.length = N) := (by show _ = _; rw [hAL, pw_len, HN.out])
      have HR2 : Hid (lessP x i p = decide (whl AL (i + 1) < p)) := (by show _ = _; rw [HR.out, hAL, HL.out])
      have hNb : N ≤ 3000 := by have := HN.out; omega
      clear hAL HR
      go_wp2
      go_loopw [15, 16] (fun hv iv wr2 => ∃ (t : Nat) (A : Int), hv = .int .u64 ((whl AL t : Nat) : Int) ∧ iv = .int .i64 A ∧ t ≤ i + 1 ∧ Hid (A = (N : Int) - 1 - (t : Int)) ∧ wr2 = wr) (fun _ iv _ => (intOf iv + 1).toNat)
      case atStart => exact ⟨0, (N : Int) - 1, rfl, by go_num, by omega, by show _ = _; omega, rfl⟩
      case round =>
        obtain ⟨t, A, rfl, rfl, ht, HA, rfl⟩ := hrel
        by_cases htl : t < i + 1
        · have q3 : (i : Int) ≤ A := by have := HA.out; have := HN.out; omega
          obtain ⟨B, hB⟩ : ∃ B : Nat, B = N - 1 - t := ⟨_, rfl⟩
          have f0 : A = (B : Int) := by have := HA.out; have := HN.out; omega
          subst f0
          have q4 : (B : Int) < N := by have := HN.out; omega
          have q5 : (0 : Int) ≤ B := by omega
          have c1 := HAa.out.cell (i := B) (by rw [HALn.out]; have := HN.out; omega)
          obtain ⟨h0, hh0⟩ : ∃ h0 : Nat, h0 = whl AL t := ⟨_, rfl⟩
          obtain ⟨y, hy⟩ : ∃ y : Nat, y = AL.getD B 0 := ⟨_, rfl⟩
          obtain ⟨m, hm⟩ : ∃ m : Nat, m = h0 * 4294967296 % 18446744073709551616 := ⟨_, rfl⟩
          obtain ⟨v, hv⟩ : ∃ v : Nat, v = (m + y) % 18446744073709551616 := ⟨_, rfl⟩
          have f2 : IntKind.u64.wrap ((h0 : Int) * 4294967296) = (m : Int) := by rw [IntKind.wrap_u64, hm]; simp
          have f3 : IntKind.u64.wrap ((m : Int) + (y : Int)) = (v : Int) := by rw [IntKind.wrap_u64, hv]; simp
          have f4 : IntKind.i64.wrap ((B : Int) - 1) = (B : Int) - 1 := by rw [IntKind.wrap_i64]; omega
          have Hv : Hid (whl AL (t + 1) = v) := (by
            show _ = _
            rw [whl, HALn.out, ← hB, ← hy, ← hh0, ← hm, ← hv])
          rw [← hy] at c1
          rw [← hh0]
          have HBt : Hid (B = N - 1 - t) := hB
          clear hy hm hv hh0 hB
          go_wp2
          refine ⟨⟨t + 1, (B : Int) - 1, ?_, by go_num, by omega, ?_, trivial⟩, ?_⟩
          · rw [Hv.out]
          · have h1 := HN.out
            have h2 := HBt.out
            show _ = _
            omega
          · simp [intOf]
        · have q3 : ¬ (i : Int) ≤ A := by have := HA.out; have := HN.out; omega
          obtain rfl : t = i + 1 := by omega
          go_wp2
          go_ret
          refine ⟨?_, Hw.out⟩
          rw [HR2.out]
          rfl
end Go.Proofs
