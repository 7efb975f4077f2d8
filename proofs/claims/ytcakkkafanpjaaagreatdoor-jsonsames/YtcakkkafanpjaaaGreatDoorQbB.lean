/-
  Laid together by packg.py of TnP TnQ TnR.
-/
import Derived.Test.YtcakkkafanpjaaaGreatDoorQaI
import Derived.Test.YtcakkkafanpjaaaGreatDoorQbA
import Derived.Test.YtcakkkafanpjaaaGreatDoorQaX
namespace Go.Proofs
open Go.RowKit Go.Jv
theorem Tryz.nkind (w : World) : Calls Tryz.prog 12 #[.pointer none] w fun e w' => e = .returned (.int .i64 0) ∧ w' = w := by
  go_enter Tryz.func12, Tryz.ntmps12
  go_wp2
  go_ret
  exact ⟨rfl, rfl⟩
theorem Tryz.ntrue (w : World) : Calls Tryz.prog 32 #[.pointer none] w fun e w' => e = .returned (.bool false) ∧ w' = w := by
  go_enter Tryz.func32, Tryz.ntmps32
  go_wp2
  go_ret
  exact ⟨rfl, rfl⟩
theorem Tryz.nnum (w : World) : Calls Tryz.prog 34 #[.pointer none] w fun e w' => e = .returned (.int .i64 0) ∧ w' = w := by
  go_enter Tryz.func34, Tryz.ntmps34
  go_wp2
  go_ret
  exact ⟨rfl, rfl⟩
theorem Tryz.ntext (w : World) : Calls Tryz.prog 36 #[.pointer none] w fun e w' => e = .returned (.string emp) ∧ w' = w := by
  go_enter Tryz.func36, Tryz.ntmps36
  go_wp2
  go_ret
  exact ⟨rfl, rfl⟩
theorem Tryz.nlen (w : World) : Calls Tryz.prog 38 #[.pointer none] w fun e w' => e = .returned (.int .i64 0) ∧ w' = w := by
  go_enter Tryz.func38, Tryz.ntmps38
  go_wp2
  go_ret
  exact ⟨rfl, rfl⟩
theorem Tryz.nappend (B n : Nat) (bv : Value) (xs : List Value) (w : World) (hrow : w.ownsRow B 5 1 bv n xs) (hB : B ≤ w.heap.size) (hlen : n ≤ 900000000) :
    Calls Tryz.prog 25 #[.pointer none, bv] w fun en w' => Tryz.Put B n xs (pr .null) w en w' := by
  have hk := Tryz.nkind w
  go_enter Tryz.func25, Tryz.ntmps25
  go_wp2_with (first | (go_at_call 12; refine hk.mono ?_; rintro e1 w1 ⟨rfl, rfl⟩) | (at_builtin; refine Tryz.app_str rfl _ _ rfl B bv n xs (by rfl) _ hrow hB ⟨#[110, 117, 108, 108]⟩ (by rfl) (by show n + 4 ≤ _; omega) ?_; intro v' w' hown hbe) | fail)
  go_ret
  exact ⟨v', rfl, hown, hbe⟩
theorem Tryz.nprint (w : World) (_hT : Tryz.Tb w) : Calls Tryz.prog 11 #[.pointer none] w fun en w' => en = .returned (.string ⟨(pr .null).toArray⟩) ∧ Below w.heap.size w w' := by
  have hap := Tryz.nappend w.heap.size 0 (.slice none 0 0) [] w ⟨rfl, .inl ⟨rfl, rfl⟩⟩ (Nat.le_refl _) (by omega)
  have hcv : ∀ (W : World) (b : Value), W.ownsRow w.heap.size 5 1 b (0 + (pr .null).length) ([] ++ Lib.byteCells (pr .null)) → (convert 22 9 b).run Tryz.prog W = .ok (.string ⟨(pr .null).toArray⟩) W := fun W b h => Tryz.gathered (B := w.heap.size) (by simpa using h)
  generalize pr .null = L at *
  go_enter Tryz.func11, Tryz.ntmps11
  go_wp2_with (first | (go_at_call 25; refine hap.mono ?_; rintro e1 w1 ⟨v1, rfl, hown1, hbe1⟩; have hcv1 := hcv w1 v1 hown1) | fail)
  go_ret
  exact ⟨rfl, hbe1⟩
end Go.Proofs
namespace Go.Proofs
open Go.RowKit Go.Jv
/-- What a value's head shows. -/
def Jv.kindV : V → Int
  | .null => 0 | .bool _ => 1 | .int _ => 2 | .text _ => 3 | .list _ => 4 | .obj _ _ => 5
def Jv.trueV : V → Bool
  | .bool b => b | _ => false
def Jv.numV : V → Int
  | .int n => n | _ => 0
def Jv.textV : V → ByteArray
  | .text s => s | _ => emp
def Jv.keysV : V → List ByteArray
  | .obj ks _ => ks | _ => []
def Jv.itemsV : V → List V
  | .list l => l | .obj _ l => l | _ => []
theorem Jv.v_ext {v u : V} (h0 : Jv.kindV v = Jv.kindV u) (h1 : Jv.trueV v = Jv.trueV u) (h2 : Jv.numV v = Jv.numV u) (h3 : Jv.textV v = Jv.textV u) (h4 : Jv.keysV v = Jv.keysV u) (h5 : Jv.itemsV v = Jv.itemsV u) : v = u := by
  cases v <;> cases u <;> first
    | rfl
    | (simp [Jv.kindV] at h0; done)
    | (simp only [Jv.trueV, Jv.numV, Jv.textV, Jv.keysV, Jv.itemsV] at h1 h2 h3 h4 h5; subst_vars; rfl)
/-- The block of any value, with its rows. -/
theorem Tryz.Tr_any {w : World} {ok : Nat → Prop} {v : V} {x : Nat} (h : Tryz.Tr w ok v x) : ∃ (kv : Value) (a : Option Addr) (c : Nat) (xs : List Nat), Jv.Vb w x (Jv.kindV v) (Jv.trueV v) (Jv.numV v) (Jv.textV v) kv (.slice a (Jv.itemsV v).length c) ∧ ok x ∧
    (0 < (Jv.itemsV v).length → Jv.Rw w ok 24 (.slice a (Jv.itemsV v).length c) (Jv.ptrs xs) ∧ Tryz.Trs w ok (Jv.itemsV v) xs ∧ ((Jv.kindV v = 5 ∧ Jv.Rw w ok 9 kv ((Jv.keysV v).map Value.string) ∧ (Jv.keysV v).length = (Jv.itemsV v).length) ∨ (Jv.kindV v = 4 ∧ kv = Jv.nilS ∧ Jv.keysV v = []))) ∧ ((Jv.itemsV v).length = 0 → Jv.keysV v = []) ∧ (Jv.itemsV v).length ≤ 9223372036854775807 := by
  cases v with
  | null => unfold Tryz.Tr at h; exact ⟨Jv.nilS, none, 0, [], h.2, h.1, fun h => absurd h (Nat.lt_irrefl 0), fun _ => rfl, by simp [Jv.itemsV]⟩
  | bool b => unfold Tryz.Tr at h; exact ⟨Jv.nilS, none, 0, [], h.2, h.1, fun h => absurd h (Nat.lt_irrefl 0), fun _ => rfl, by simp [Jv.itemsV]⟩
  | int n => unfold Tryz.Tr at h; exact ⟨Jv.nilS, none, 0, [], h.2, h.1.1, fun h => absurd h (Nat.lt_irrefl 0), fun _ => rfl, by simp [Jv.itemsV]⟩
  | text s => unfold Tryz.Tr at h; exact ⟨Jv.nilS, none, 0, [], h.2, h.1, fun h => absurd h (Nat.lt_irrefl 0), fun _ => rfl, by simp [Jv.itemsV]⟩
  | list l =>
    unfold Tryz.Tr at h
    obtain ⟨h1, sv, xs, h2, h3, h4⟩ := h
    have lx := Tryz.Trs_len l xs h4
    have px : (Jv.ptrs xs).length = l.length := by simp [Jv.ptrs, lx]
    obtain ⟨a, c, e⟩ := Jv.row_form h3.row
    have hl : l.length ≤ 9223372036854775807 := by
      rcases h3.row.2 with ⟨_, h2⟩ | ⟨g, cap, cur, _, _, _, h4, h5, _⟩
      · omega
      · unfold maxLen at h5; omega
    rw [px] at e
    subst e
    exact ⟨Jv.nilS, a, c, xs, h2, h1, fun _ => ⟨h3, h4, .inr ⟨rfl, rfl, rfl⟩⟩, fun _ => rfl, hl⟩
  | obj ks l =>
    unfold Tryz.Tr at h
    obtain ⟨h1, kv, sv, xs, h2, h5, h3, h4, h6⟩ := h
    have lx := Tryz.Trs_len l xs h4
    have px : (Jv.ptrs xs).length = l.length := by simp [Jv.ptrs, lx]
    obtain ⟨a, c, e⟩ := Jv.row_form h3.row
    have hl : l.length ≤ 9223372036854775807 := by
      rcases h3.row.2 with ⟨_, h2⟩ | ⟨g, cap, cur, _, _, _, h4, h5, _⟩
      · omega
      · unfold maxLen at h5; omega
    rw [px] at e
    subst e
    exact ⟨kv, a, c, xs, h2, h1, fun _ => ⟨h3, h4, .inl ⟨rfl, h5, h6.trans lx⟩⟩, fun h0 => List.eq_nil_of_length_eq_zero (by have h0 : l.length = 0 := h0; show ks.length = 0; omega), hl⟩
/-- What two blocks hold is one. -/
def Tryz.Eqv (w0 : World) (B : Nat) (x y : Nat) : Prop := ∃ u, Tryz.Tr w0 (fun g => g < B) u x ∧ Tryz.Tr w0 (fun g => g < B) u y
/-- 'alike' of what was there ahead of the map: whether they are one. -/
def Tryz.AeOk (v : V) : Prop := ∀ (u : V) (B : Nat) (w0 w : World) (x y m : Nat), B ≤ w0.heap.size → Tryz.Tr w0 (fun g => g < B) v x → Tryz.Tr w0 (fun g => g < B) u y → Below B w0 w → B ≤ m → Jv.Mr (Tryz.Eqv w0 B) w m →
    Calls Tryz.prog 24 #[.pointer (some ⟨x, 0, none⟩), .pointer (some ⟨y, 0, none⟩), .map (some m)] w fun e w' => (∃ b, e = .returned (.bool b) ∧ (b = true ↔ v = u)) ∧ Jv.Mr (Tryz.Eqv w0 B) w' m ∧ Below B w w'
theorem Tryz.ae_same {v u : V} {B : Nat} {w0 w : World} {x m : Nat} {R : Nat → Nat → Prop} (_hB : B ≤ w0.heap.size) (hx : Tryz.Tr w0 (fun g => g < B) v x) (hy : Tryz.Tr w0 (fun g => g < B) u x) (hb : Below B w0 w) (hP : Jv.Mr R w m) :
    Calls Tryz.prog 24 #[.pointer (some ⟨x, 0, none⟩), .pointer (some ⟨x, 0, none⟩), .map (some m)] w fun e w' => (∃ b, e = .returned (.bool b) ∧ (b = true ↔ v = u)) ∧ Jv.Mr R w' m ∧ Below B w w' := by
  have e := Tryz.Tr_fun v u x hx hy
  obtain ⟨cs, T, hu⟩ := Tryz.Tr_un (Tryz.Tr_keep (w' := w) (fun g hg _ => hb.block g hg) hb.size _ _ hx)
  exact (Tryz.alike_self hu _).mono fun en w' ⟨h1, h2⟩ => ⟨⟨true, h1, by simp [e]⟩, by rw [h2]; exact hP, by rw [h2]; exact Below.refl _ _⟩
theorem Tryz.ae_no {v u : V} {B : Nat} {w : World} {x y m : Nat} {R : Nat → Nat → Prop} (hP : Jv.Mr R w m) (hne : v ≠ u) (h : Calls Tryz.prog 24 #[.pointer (some ⟨x, 0, none⟩), .pointer (some ⟨y, 0, none⟩), .map (some m)] w fun e w' => e = .returned (.bool false) ∧ w' = w) :
    Calls Tryz.prog 24 #[.pointer (some ⟨x, 0, none⟩), .pointer (some ⟨y, 0, none⟩), .map (some m)] w fun e w' => (∃ b, e = .returned (.bool b) ∧ (b = true ↔ v = u)) ∧ Jv.Mr R w' m ∧ Below B w w' :=
  h.mono fun en w' ⟨h1, h2⟩ => ⟨⟨false, h1, by simp [hne]⟩, by rw [h2]; exact hP, by rw [h2]; exact Below.refl _ _⟩
/-- One level. -/
theorem Tryz.ae_level (v : V) (hall : ∀ (i : Nat) (h : i < (Jv.itemsV v).length), Tryz.AeOk (Jv.itemsV v)[i]) : Tryz.AeOk v := by
  classical
  intro u B w0 w x y m hB hx hy hb hm hP
  by_cases hne : x = y
  · subst hne
    exact Tryz.ae_same hB hx hy hb hP
  obtain ⟨kv1, a1, c1, xs, hvx0, ox, ix, zx, lx⟩ := Tryz.Tr_any hx
  obtain ⟨kv2, a2, c2, ys, hvy0, oy, iy, zy, ly⟩ := Tryz.Tr_any hy
  have hvx := hvx0.keep (hb.block x ox) hb.size
  have hvy := hvy0.keep (hb.block y oy) hb.size
  by_cases e0 : Jv.kindV v = Jv.kindV u
  case neg => exact Tryz.ae_no hP (fun e => e0 (by rw [e])) (Tryz.alx_kind hvx hvy hne _ e0)
  rw [← e0] at hvy
  by_cases e1 : Jv.trueV v = Jv.trueV u
  case neg => exact Tryz.ae_no hP (fun e => e1 (by rw [e])) (Tryz.alx_truth hvx hvy hne _ e1)
  rw [← e1] at hvy
  by_cases e2 : Jv.numV v = Jv.numV u
  case neg => exact Tryz.ae_no hP (fun e => e2 (by rw [e])) (Tryz.alx_num hvx hvy hne _ e2)
  rw [← e2] at hvy
  by_cases e3 : Jv.textV v = Jv.textV u
  case neg => exact Tryz.ae_no hP (fun e => e3 (by rw [e])) (Tryz.alx_text hvx hvy hne _ e3)
  rw [← e3] at hvy
  by_cases e4 : (Jv.itemsV v).length = (Jv.itemsV u).length
  case neg => exact Tryz.ae_no hP (fun e => e4 (by rw [e])) (Tryz.alx_len hvx hvy hne _ e4)
  rw [← e4] at hvy
  by_cases h0 : 0 < (Jv.itemsV v).length
  case neg =>
    have z1 : (Jv.itemsV v).length = 0 := by omega
    rw [z1] at hvx hvy
    have ev : v = u := Jv.v_ext e0 e1 e2 e3 (by rw [zx z1, zy (by omega)]) (by rw [List.eq_nil_of_length_eq_zero z1, List.eq_nil_of_length_eq_zero (by omega : (Jv.itemsV u).length = 0)])
    exact (Tryz.alike_leaf hvx hvy hne _).mono fun en w' ⟨h1, h2⟩ => ⟨⟨true, h1, by simp [ev]⟩, by rw [h2]; exact hP, by rw [h2]; exact Below.refl _ _⟩
  obtain ⟨rx0, tx, kx⟩ := ix h0
  obtain ⟨ry0, ty, ky⟩ := iy (by omega)
  have rx := rx0.keep (w' := w) (fun g hg _ => hb.block g hg)
  have ry := ry0.keep (w' := w) (fun g hg _ => hb.block g hg)
  clear hvx0 hvy0 rx0 ry0
  have px : (Jv.ptrs xs).length = (Jv.itemsV v).length := by simp [Jv.ptrs, Tryz.Trs_len _ _ tx]
  have py : (Jv.ptrs ys).length = (Jv.itemsV u).length := by simp [Jv.ptrs, Tryz.Trs_len _ _ ty]
  obtain ⟨g1, d1, f1, og1, -, cl1⟩ := Jv.row_cells rx (by omega)
  obtain ⟨g2, d2, f2, og2, -, cl2⟩ := Jv.row_cells ry (by omega)
  injection f1 with f1 _ _
  injection f2 with f2 _ _
  subst f1 f2
  have hkeys : ∃ ke : Bool, (ke = true ↔ Jv.keysV v = Jv.keysV u) ∧ ∀ W, Below B w W → Calls Tryz.prog 61 #[kv1, kv2] W fun e w' => e = .returned (.bool ke) ∧ ∃ q, w' = W.drewN q := by
    rcases kx with ⟨k5, kr1, kl1⟩ | ⟨k4, rfl, kn1⟩
    · rcases ky with ⟨_, kr2, kl2⟩ | ⟨k4, _⟩
      · have m1 : ((Jv.keysV v).map Value.string).length = (Jv.itemsV v).length := by rw [List.length_map, kl1]
        have m2 : ((Jv.keysV u).map Value.string).length = (Jv.itemsV u).length := by rw [List.length_map, kl2]
        obtain ⟨gk1, ck1, rfl, ok1, -, q1⟩ := Jv.row_cells kr1 (by omega)
        obtain ⟨gk2, ck2, rfl, ok2, -, q2⟩ := Jv.row_cells kr2 (by omega)
        refine ⟨decide (Jv.keysV v = Jv.keysV u), by simp, fun W hW => ?_⟩
        rw [m1, m2]
        have := Tryz.slices_Equal_string gk1 0 (Jv.itemsV v).length ck1 gk2 0 (Jv.itemsV u).length ck2 (Jv.keysV v) (Jv.keysV u) W (by omega) (by omega) lx ly (fun j hj => by
          rw [Nat.zero_add, (hb.trans hW).cell (p := ⟨gk1, j, none⟩) ok1, q1 j (.string (Jv.keysV v)[j]) (by simp [hj]), List.getD_eq_getElem?_getD, List.getElem?_eq_getElem hj]
          rfl) (fun j hj => by
          rw [Nat.zero_add, (hb.trans hW).cell (p := ⟨gk2, j, none⟩) ok2, q2 j (.string (Jv.keysV u)[j]) (by simp [hj]), List.getD_eq_getElem?_getD, List.getElem?_eq_getElem hj]
          rfl)
        rw [List.take_of_length_le (by omega), List.take_of_length_le (by omega)] at this
        exact this
      · omega
    · rcases ky with ⟨k5, _⟩ | ⟨_, rfl, kn2⟩
      · omega
      · refine ⟨true, by simp [kn1, kn2], fun W hW => ?_⟩
        exact (Tryz.slices_Equal_string_empty none none 0 0 0 W (by omega)).mono fun e w' ⟨h3, h4⟩ => ⟨by simpa using h3, 0, by rw [h4]; rfl⟩
  obtain ⟨ke, hke, hkc⟩ := hkeys
  have hit : ∀ i, i < (Jv.itemsV v).length → ∃ a c, w.cell? ⟨g1, i, none⟩ = some (.pointer (some ⟨a, 0, none⟩)) ∧ w.cell? ⟨g2, i, none⟩ = some (.pointer (some ⟨c, 0, none⟩)) ∧ ∀ W, Below B w W → Jv.Mr (Tryz.Eqv w0 B) W m → Calls Tryz.prog 24 #[.pointer (some ⟨a, 0, none⟩), .pointer (some ⟨c, 0, none⟩), .map (some m)] W fun e w' => e = .returned (.bool (decide ((Jv.itemsV v)[i]? = (Jv.itemsV u)[i]?))) ∧ Jv.Mr (Tryz.Eqv w0 B) w' m ∧ Below B W w' := fun i hi => by
    obtain ⟨p, hp, hp0⟩ := Tryz.Trs_get _ xs i hi tx
    obtain ⟨q, hq, hq0⟩ := Tryz.Trs_get _ ys i (by omega : i < (Jv.itemsV u).length) ty
    refine ⟨p, q, cl1 i _ (by simp [Jv.ptrs, hp]), cl2 i _ (by simp [Jv.ptrs, hq]), fun W hW hMW => ?_⟩
    refine (hall i hi _ B w0 W p q m hB hp0 hq0 (hb.trans hW) hm hMW).mono ?_
    rintro e w' ⟨⟨b, h1, h2⟩, h3, h4⟩
    refine ⟨?_, h3, h4⟩
    rw [h1, List.getElem?_eq_getElem hi, List.getElem?_eq_getElem (by omega : i < (Jv.itemsV u).length)]
    congr 2
    rw [Bool.eq_iff_iff, h2]
    simp
  refine (Tryz.alike_go hvx hvy hne ox oy og1 og2 hm (Nat.le_trans hB hb.size) hP h0 lx ke hkc (fun i => decide ((Jv.itemsV v)[i]? = (Jv.itemsV u)[i]?)) hit (decide (v = u)) ?_ ?_ ?_ ?_).mono ?_
  · rintro ⟨z, z1, z2⟩
    exact decide_eq_true ((Tryz.Tr_fun v z x hx z1).trans (Tryz.Tr_fun u z y hy z2).symm)
  · intro h
    refine decide_eq_false fun e => ?_
    rw [hke.2 (by rw [e])] at h
    cases h
  · intro i _ h
    refine decide_eq_false fun e => ?_
    rw [e] at h
    simp at h
  · intro h1 h2
    have ev : v = u := Jv.v_ext e0 e1 e2 e3 (hke.1 h1) (List.ext_getElem? fun i => by
      by_cases hi : i < (Jv.itemsV v).length
      · exact of_decide_eq_true (h2 i hi)
      · rw [List.getElem?_eq_none (by omega), List.getElem?_eq_none (by omega)])
    exact ⟨decide_eq_true ev, v, hx, by rw [ev]; exact hy⟩
  · rintro e w' ⟨h1, h2, h3⟩
    exact ⟨⟨_, h1, by simp⟩, h2, h3⟩
mutual
theorem Tryz.ae_any : ∀ v : V, Tryz.AeOk v
  | .null => Tryz.ae_level .null fun _i h => absurd h (Nat.not_lt_zero _)
  | .bool b => Tryz.ae_level (.bool b) fun _i h => absurd h (Nat.not_lt_zero _)
  | .int n => Tryz.ae_level (.int n) fun _i h => absurd h (Nat.not_lt_zero _)
  | .text s => Tryz.ae_level (.text s) fun _i h => absurd h (Nat.not_lt_zero _)
  | .list l => Tryz.ae_level (.list l) (Tryz.ae_all l)
  | .obj ks l => Tryz.ae_level (.obj ks l) (Tryz.ae_all l)
theorem Tryz.ae_all : ∀ (l : List V) (k : Nat) (h : k < l.length), Tryz.AeOk l[k]
  | v :: _, 0, _ => Tryz.ae_any v
  | _ :: l, k + 1, h => Tryz.ae_all l k (by simpa using h)
end
set_option maxRecDepth 100000 in
/-- 'Same' of any two values. -/
theorem Tryz.same_eq {w : World} {x y : Nat} {v u : V} {ok1 ok2 : Nat → Prop} (hx : Tryz.Tr w ok1 v x) (hy : Tryz.Tr w ok2 u y) :
    Calls Tryz.prog 10 #[.pointer (some ⟨x, 0, none⟩), .pointer (some ⟨y, 0, none⟩)] w fun e w' => (∃ b, e = .returned (.bool b) ∧ (b = true ↔ v = u)) ∧ Below w.heap.size w w' := by
  have hb0 : Below w.heap.size w (w.alloc (.map #[] 0)) := (Below.refl _ _).alloc (Nat.le_refl _) _
  have hP : Jv.Mr (Tryz.Eqv w w.heap.size) (w.alloc (.map #[] 0)) w.heap.size := ⟨#[], 0, heap_alloc_new w _, fun e he => by simp at he, fun e he => by simp at he⟩
  have ha := Tryz.ae_any v u w.heap.size w (w.alloc (.map #[] 0)) x y w.heap.size (Nat.le_refl _) (Tryz.Tr_mono (fun _ _ h => h) _ _ hx) (Tryz.Tr_mono (fun _ _ h => h) _ _ hy) hb0 (Nat.le_refl _) hP
  have HB0 : Hid (Below w.heap.size w (w.alloc (.map #[] 0))) := hb0
  clear hx hy hP hb0
  have hm := run_makeMap (P := Tryz.prog) 61 w
  go_enter Tryz.func10, Tryz.ntmps10
  go_wp2_with (first
    | (go_at_call 24; refine ha.mono ?_; clear ha; rintro e1 w1 ⟨⟨b1, rfl, hbb⟩, -, hb1⟩; have HBB : Hid (b1 = true ↔ v = u) := hbb; clear hbb)
    | fail)
  go_ret
  exact ⟨⟨_, rfl, HBB.out⟩, HB0.out.trans hb1⟩
end Go.Proofs
namespace Go.Proofs
open Go.RowKit Go.Jv
/-- A value, or none at all, which is as null. -/
def Tryz.Tp (w : World) (ok : Nat → Prop) (v : V) : Option Addr → Prop
  | none => v = .null
  | some a => ∃ x, a = ⟨x, 0, none⟩ ∧ Tryz.Tr w ok v x
theorem Tryz.Tp_keep {w w' : World} {ok : Nat → Prop} {v : V} {p : Option Addr} (hk : ∀ g, ok g → g < w.heap.size → w'.heap[g]? = w.heap[g]?) (hs : w.heap.size ≤ w'.heap.size) (h : Tryz.Tp w ok v p) : Tryz.Tp w' ok v p := by
  cases p with
  | none => exact h
  | some a => obtain ⟨x, h1, h2⟩ := h; exact ⟨x, h1, Tryz.Tr_keep hk hs _ _ h2⟩
theorem Tryz.Tp_mono {w : World} {ok ok' : Nat → Prop} {v : V} {p : Option Addr} (hm : ∀ g, ok g → g < w.heap.size → ok' g) (h : Tryz.Tp w ok v p) : Tryz.Tp w ok' v p := by
  cases p with
  | none => exact h
  | some a => obtain ⟨x, h1, h2⟩ := h; exact ⟨x, h1, Tryz.Tr_mono hm _ _ h2⟩
theorem Tryz.kind_p {w : World} {ok : Nat → Prop} {v : V} {p : Option Addr} (h : Tryz.Tp w ok v p) : Calls Tryz.prog 12 #[.pointer p] w fun e w' => e = .returned (.int .i64 (Jv.kindV v)) ∧ w' = w := by
  cases p with
  | none => have h : v = .null := h; subst h; exact Tryz.nkind w
  | some a => obtain ⟨x, rfl, h2⟩ := h; obtain ⟨_, _, _, _, hv, -⟩ := Tryz.Tr_any h2; exact Tryz.kind_any hv
theorem Tryz.print_p {w : World} {v : V} {p : Option Addr} (h : Tryz.Tp w (fun g => g < w.heap.size) v p) (hT : Tryz.Tb w) (hlen : (pr v).length ≤ 100000000) : Calls Tryz.prog 11 #[.pointer p] w fun en w' => en = .returned (.string ⟨(pr v).toArray⟩) ∧ Below w.heap.size w w' := by
  cases p with
  | none => have h : v = .null := h; subst h; exact Tryz.nprint w hT
  | some a => obtain ⟨x, rfl, h2⟩ := h; exact Tryz.print_any v w x h2 hT hlen
theorem Tryz.eql_np (w : World) (y : Nat) : (binOp .eql 24 (.pointer none) (.pointer (some ⟨y, 0, none⟩))).run Tryz.prog w = .ok (.bool false) w := by
  have h : ∀ d : Nat, (Op.equalIn (d + 1) 24 (.pointer none) (.pointer (some ⟨y, 0, none⟩))).run Tryz.prog w = .ok false w := fun d => by
    simp [Op.equalIn, run_underlying Tryz.underlying24]
  simp only [binOp]
  simp [Op.equal, Op.maxDepth, h 9999]
theorem Tryz.eql_pn (w : World) (y : Nat) : (binOp .eql 24 (.pointer (some ⟨y, 0, none⟩)) (.pointer none)).run Tryz.prog w = .ok (.bool false) w := by
  have h : ∀ d : Nat, (Op.equalIn (d + 1) 24 (.pointer (some ⟨y, 0, none⟩)) (.pointer none)).run Tryz.prog w = .ok false w := fun d => by
    simp [Op.equalIn, run_underlying Tryz.underlying24]
  simp only [binOp]
  simp [Op.equal, Op.maxDepth, h 9999]
set_option maxRecDepth 100000 in
set_option maxHeartbeats 2000000 in
theorem Tryz.alike_ln {w : World} {y : Nat} {kv2 : Value} {a2 : Option Addr} {c2 : Nat} (hy : Jv.Vb w y 0 false 0 emp kv2 (.slice a2 0 c2)) (m : Value) :
    Calls Tryz.prog 24 #[.pointer none, .pointer (some ⟨y, 0, none⟩), m] w fun e w' => e = .returned (.bool true) ∧ w' = w := by
  have k1 := Tryz.nkind w
  have k2 := Tryz.kind_any hy
  have t1 := Tryz.ntrue w
  have t2 := Tryz.true_of hy
  have n1 := Tryz.nnum w
  have n2 := Tryz.num_of hy
  have x1 := Tryz.ntext w
  have x2 := Tryz.text_of hy
  have l1 := Tryz.nlen w
  have l2 := Tryz.len_of hy
  have l3 := Tryz.nlen w
  have hq := Tryz.eql_np w y
  clear hy
  go_enter Tryz.func24, Tryz.ntmps24
  go_wp2_with (first
    | (go_at_call 12; refine k1.mono ?_; clear k1; rintro e1 w1 ⟨rfl, rfl⟩)
    | (go_at_call 12; refine k2.mono ?_; clear k2; rintro e1 w1 ⟨rfl, rfl⟩)
    | (go_at_call 32; refine t1.mono ?_; clear t1; rintro e1 w1 ⟨rfl, rfl⟩)
    | (go_at_call 32; refine t2.mono ?_; clear t2; rintro e1 w1 ⟨rfl, rfl⟩)
    | (go_at_call 34; refine n1.mono ?_; clear n1; rintro e1 w1 ⟨rfl, rfl⟩)
    | (go_at_call 34; refine n2.mono ?_; clear n2; rintro e1 w1 ⟨rfl, rfl⟩)
    | (go_at_call 36; refine x1.mono ?_; clear x1; rintro e1 w1 ⟨rfl, rfl⟩)
    | (go_at_call 36; refine x2.mono ?_; clear x2; rintro e1 w1 ⟨rfl, rfl⟩)
    | (go_at_call 38; refine l1.mono ?_; clear l1; rintro e1 w1 ⟨rfl, rfl⟩)
    | (go_at_call 38; refine l2.mono ?_; clear l2; rintro e1 w1 ⟨rfl, rfl⟩)
    | (go_at_call 38; refine l3.mono ?_; clear l3; rintro e3 w3 ⟨rfl, rfl⟩)
    | fail)
  go_ret
  exact ⟨rfl, rfl⟩
set_option maxRecDepth 100000 in
set_option maxHeartbeats 2000000 in
theorem Tryz.alike_lx {w : World} {y : Nat} {kv2 : Value} {a2 : Option Addr} {c2 : Nat} {kb : Int} {bb : Bool} {nb : Int} {tb : ByteArray} {Lb : Nat} (hy : Jv.Vb w y kb bb nb tb kv2 (.slice a2 Lb c2)) (hd : kb ≠ 0) (m : Value) :
    Calls Tryz.prog 24 #[.pointer none, .pointer (some ⟨y, 0, none⟩), m] w fun e w' => e = .returned (.bool false) ∧ w' = w := by
  have k1 := Tryz.nkind w
  have k2 := Tryz.kind_any hy
  have t1 := Tryz.ntrue w
  have t2 := Tryz.true_of hy
  have n1 := Tryz.nnum w
  have n2 := Tryz.num_of hy
  have x1 := Tryz.ntext w
  have x2 := Tryz.text_of hy
  have l1 := Tryz.nlen w
  have l2 := Tryz.len_of hy
  have l3 := Tryz.nlen w
  have q : ((0 : Int) != kb) = true := by simpa using Ne.symm hd
  have q' : ¬ (0 : Int) = kb := Ne.symm hd
  have hq := Tryz.eql_np w y
  clear hy hd
  go_enter Tryz.func24, Tryz.ntmps24
  go_wp2_with (first
    | (go_at_call 12; refine k1.mono ?_; clear k1; rintro e1 w1 ⟨rfl, rfl⟩)
    | (go_at_call 12; refine k2.mono ?_; clear k2; rintro e1 w1 ⟨rfl, rfl⟩)
    | (go_at_call 32; refine t1.mono ?_; clear t1; rintro e1 w1 ⟨rfl, rfl⟩)
    | (go_at_call 32; refine t2.mono ?_; clear t2; rintro e1 w1 ⟨rfl, rfl⟩)
    | (go_at_call 34; refine n1.mono ?_; clear n1; rintro e1 w1 ⟨rfl, rfl⟩)
    | (go_at_call 34; refine n2.mono ?_; clear n2; rintro e1 w1 ⟨rfl, rfl⟩)
    | (go_at_call 36; refine x1.mono ?_; clear x1; rintro e1 w1 ⟨rfl, rfl⟩)
    | (go_at_call 36; refine x2.mono ?_; clear x2; rintro e1 w1 ⟨rfl, rfl⟩)
    | (go_at_call 38; refine l1.mono ?_; clear l1; rintro e1 w1 ⟨rfl, rfl⟩)
    | (go_at_call 38; refine l2.mono ?_; clear l2; rintro e1 w1 ⟨rfl, rfl⟩)
    | (go_at_call 38; refine l3.mono ?_; clear l3; rintro e3 w3 ⟨rfl, rfl⟩)
    | fail)
  go_ret
  exact ⟨rfl, rfl⟩
set_option maxRecDepth 100000 in
set_option maxHeartbeats 2000000 in
theorem Tryz.alike_rn {w : World} {y : Nat} {kv2 : Value} {a2 : Option Addr} {c2 : Nat} (hy : Jv.Vb w y 0 false 0 emp kv2 (.slice a2 0 c2)) (m : Value) :
    Calls Tryz.prog 24 #[.pointer (some ⟨y, 0, none⟩), .pointer none, m] w fun e w' => e = .returned (.bool true) ∧ w' = w := by
  have k1 := Tryz.kind_any hy
  have k2 := Tryz.nkind w
  have t1 := Tryz.true_of hy
  have t2 := Tryz.ntrue w
  have n1 := Tryz.num_of hy
  have n2 := Tryz.nnum w
  have x1 := Tryz.text_of hy
  have x2 := Tryz.ntext w
  have l1 := Tryz.len_of hy
  have l2 := Tryz.nlen w
  have l3 := Tryz.len_of hy
  have hq := Tryz.eql_pn w y
  clear hy
  go_enter Tryz.func24, Tryz.ntmps24
  go_wp2_with (first
    | (go_at_call 12; refine k1.mono ?_; clear k1; rintro e1 w1 ⟨rfl, rfl⟩)
    | (go_at_call 12; refine k2.mono ?_; clear k2; rintro e1 w1 ⟨rfl, rfl⟩)
    | (go_at_call 32; refine t1.mono ?_; clear t1; rintro e1 w1 ⟨rfl, rfl⟩)
    | (go_at_call 32; refine t2.mono ?_; clear t2; rintro e1 w1 ⟨rfl, rfl⟩)
    | (go_at_call 34; refine n1.mono ?_; clear n1; rintro e1 w1 ⟨rfl, rfl⟩)
    | (go_at_call 34; refine n2.mono ?_; clear n2; rintro e1 w1 ⟨rfl, rfl⟩)
    | (go_at_call 36; refine x1.mono ?_; clear x1; rintro e1 w1 ⟨rfl, rfl⟩)
    | (go_at_call 36; refine x2.mono ?_; clear x2; rintro e1 w1 ⟨rfl, rfl⟩)
    | (go_at_call 38; refine l1.mono ?_; clear l1; rintro e1 w1 ⟨rfl, rfl⟩)
    | (go_at_call 38; refine l2.mono ?_; clear l2; rintro e1 w1 ⟨rfl, rfl⟩)
    | (go_at_call 38; refine l3.mono ?_; clear l3; rintro e3 w3 ⟨rfl, rfl⟩)
    | fail)
  go_ret
  exact ⟨rfl, rfl⟩
set_option maxRecDepth 100000 in
set_option maxHeartbeats 2000000 in
theorem Tryz.alike_rx {w : World} {y : Nat} {kv2 : Value} {a2 : Option Addr} {c2 : Nat} {kb : Int} {bb : Bool} {nb : Int} {tb : ByteArray} {Lb : Nat} (hy : Jv.Vb w y kb bb nb tb kv2 (.slice a2 Lb c2)) (hd : kb ≠ 0) (m : Value) :
    Calls Tryz.prog 24 #[.pointer (some ⟨y, 0, none⟩), .pointer none, m] w fun e w' => e = .returned (.bool false) ∧ w' = w := by
  have k1 := Tryz.kind_any hy
  have k2 := Tryz.nkind w
  have t1 := Tryz.true_of hy
  have t2 := Tryz.ntrue w
  have n1 := Tryz.num_of hy
  have n2 := Tryz.nnum w
  have x1 := Tryz.text_of hy
  have x2 := Tryz.ntext w
  have l1 := Tryz.len_of hy
  have l2 := Tryz.nlen w
  have l3 := Tryz.len_of hy
  have q : (kb != (0 : Int)) = true := by simpa using hd
  have q' : ¬ kb = (0 : Int) := hd
  have hq := Tryz.eql_pn w y
  clear hy hd
  go_enter Tryz.func24, Tryz.ntmps24
  go_wp2_with (first
    | (go_at_call 12; refine k1.mono ?_; clear k1; rintro e1 w1 ⟨rfl, rfl⟩)
    | (go_at_call 12; refine k2.mono ?_; clear k2; rintro e1 w1 ⟨rfl, rfl⟩)
    | (go_at_call 32; refine t1.mono ?_; clear t1; rintro e1 w1 ⟨rfl, rfl⟩)
    | (go_at_call 32; refine t2.mono ?_; clear t2; rintro e1 w1 ⟨rfl, rfl⟩)
    | (go_at_call 34; refine n1.mono ?_; clear n1; rintro e1 w1 ⟨rfl, rfl⟩)
    | (go_at_call 34; refine n2.mono ?_; clear n2; rintro e1 w1 ⟨rfl, rfl⟩)
    | (go_at_call 36; refine x1.mono ?_; clear x1; rintro e1 w1 ⟨rfl, rfl⟩)
    | (go_at_call 36; refine x2.mono ?_; clear x2; rintro e1 w1 ⟨rfl, rfl⟩)
    | (go_at_call 38; refine l1.mono ?_; clear l1; rintro e1 w1 ⟨rfl, rfl⟩)
    | (go_at_call 38; refine l2.mono ?_; clear l2; rintro e1 w1 ⟨rfl, rfl⟩)
    | (go_at_call 38; refine l3.mono ?_; clear l3; rintro e3 w3 ⟨rfl, rfl⟩)
    | fail)
  go_ret
  exact ⟨rfl, rfl⟩
set_option maxRecDepth 100000 in
theorem Tryz.alike_nn (w : World) (m : Value) : Calls Tryz.prog 24 #[.pointer none, .pointer none, m] w fun e w' => e = .returned (.bool true) ∧ w' = w := by
  go_enter Tryz.func24, Tryz.ntmps24
  go_wp2
  go_ret
  exact ⟨rfl, rfl⟩
theorem Jv.kind_null {v : V} (h : Jv.kindV v = 0) : v = .null := by cases v <;> first | rfl | exact absurd h (by simp [Jv.kindV])
theorem Tryz.same_low {w : World} {p q : Option Addr} {b : Bool} (h : Calls Tryz.prog 24 #[.pointer p, .pointer q, .map (some w.heap.size)] (w.alloc (.map #[] 0)) fun e w' => e = .returned (.bool b) ∧ w' = w.alloc (.map #[] 0)) :
    Calls Tryz.prog 10 #[.pointer p, .pointer q] w fun e w' => e = .returned (.bool b) ∧ Below w.heap.size w w' := by
  have HB0 : Hid (Below w.heap.size w (w.alloc (.map #[] 0))) := (Below.refl _ _).alloc (Nat.le_refl _) _
  have hm := run_makeMap (P := Tryz.prog) 61 w
  go_enter Tryz.func10, Tryz.ntmps10
  go_wp2_with (first
    | (go_at_call 24; refine h.mono ?_; clear h; rintro e1 w1 ⟨rfl, rfl⟩)
    | fail)
  go_ret
  exact ⟨rfl, HB0.out⟩
/-- 'Same' of any two values, or of none. -/
theorem Tryz.same_p {w : World} {p q : Option Addr} {v u : V} {ok1 ok2 : Nat → Prop} (hx : Tryz.Tp w ok1 v p) (hy : Tryz.Tp w ok2 u q) :
    Calls Tryz.prog 10 #[.pointer p, .pointer q] w fun e w' => (∃ b, e = .returned (.bool b) ∧ (b = true ↔ v = u)) ∧ Below w.heap.size w w' := by
  have hb0 : Below w.heap.size w (w.alloc (.map #[] 0)) := (Below.refl _ _).alloc (Nat.le_refl _) _
  cases p with
  | none =>
    have hx : v = .null := hx
    subst hx
    cases q with
    | none =>
      have hy : u = .null := hy
      subst hy
      exact (Tryz.same_low (Tryz.alike_nn _ _)).mono fun e w' ⟨h1, h2⟩ => ⟨⟨true, h1, by simp⟩, h2⟩
    | some b =>
      obtain ⟨y, rfl, ht⟩ := hy
      have ht' := Tryz.Tr_keep (w' := w.alloc (.map #[] 0)) (fun g _ hl => hb0.block g hl) hb0.size _ _ ht
      by_cases hk : Jv.kindV u = 0
      · have hu := Jv.kind_null hk
        subst hu
        unfold Tryz.Tr at ht'
        exact (Tryz.same_low (Tryz.alike_ln ht'.2 _)).mono fun e w' ⟨h1, h2⟩ => ⟨⟨true, h1, by simp⟩, h2⟩
      · obtain ⟨_, _, _, _, hv, -⟩ := Tryz.Tr_any ht'
        exact (Tryz.same_low (Tryz.alike_lx hv hk _)).mono fun e w' ⟨h1, h2⟩ => ⟨⟨false, h1, by simp only [Bool.false_eq_true, false_iff]; intro e; rw [← e] at hk; exact hk rfl⟩, h2⟩
  | some a =>
    obtain ⟨x, rfl, ht⟩ := hx
    cases q with
    | none =>
      have hy : u = .null := hy
      subst hy
      have ht' := Tryz.Tr_keep (w' := w.alloc (.map #[] 0)) (fun g _ hl => hb0.block g hl) hb0.size _ _ ht
      by_cases hk : Jv.kindV v = 0
      · have hu := Jv.kind_null hk
        subst hu
        unfold Tryz.Tr at ht'
        exact (Tryz.same_low (Tryz.alike_rn ht'.2 _)).mono fun e w' ⟨h1, h2⟩ => ⟨⟨true, h1, by simp⟩, h2⟩
      · obtain ⟨_, _, _, _, hv, -⟩ := Tryz.Tr_any ht'
        exact (Tryz.same_low (Tryz.alike_rx hv hk _)).mono fun e w' ⟨h1, h2⟩ => ⟨⟨false, h1, by simp only [Bool.false_eq_true, false_iff]; intro e; rw [e] at hk; exact hk rfl⟩, h2⟩
    | some b =>
      obtain ⟨y, rfl, ht2⟩ := hy
      exact Tryz.same_eq ht ht2
end Go.Proofs
