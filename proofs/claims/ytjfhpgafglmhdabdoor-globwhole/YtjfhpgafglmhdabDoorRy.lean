/-
  THE DOCUMENT'S GLOB: 'String', walked.
-/
import Derived.Test.YtjfhpgafglmhdabDoorRx
import Derived.Test.YtjfhpgafglmhdabDoorGy
namespace Go.Gl
open Go.Sg
theorem enc_ne {r : Nat} (hk : Ok r) (hs : special r = false) (c : UInt8) (hc : c = 42 ∨ c = 63 ∨ c = 92) : ((T (Lib.encodeRune (r : Int))).toList == [c]) = false := by
  rw [beq_eq_false_iff_ne, Lib.toList_data]
  intro e
  have h1 := (enc_one hk.1).2
  have h2 : T (Lib.encodeRune (r : Int)) = ⟨#[c]⟩ := ba_ext _ _ e
  rw [h2] at h1
  have h3 : rns ⟨#[c]⟩ = [c.toNat] := by rcases hc with rfl | rfl | rfl <;> kernel_rfl
  rw [h3] at h1
  have h4 : c.toNat = r := by simpa using h1
  rw [← h4] at hs
  rcases hc with rfl | rfl | rfl <;> cases hs
theorem raw_ok {s : ByteArray} (hv : valid s = true) {l : List P} (h : raw false (rns (fold s)) = some l) : ∀ r, .fix r ∈ l → Ok r := fun r hr => by
  have hsr : sr l = rns (fold s) := raw_sr _ false l h
  have := sr_mem l r hr
  rw [hsr] at this
  exact rns_ok hv r this
/-- One step of the writing: what is written so far, and the flag. -/
theorem rs_any {ps : List P} {star : Bool} {k : Nat} {out full : List UInt8} (h : out ++ rs star (ps.drop k) = full) (hp : ps[k]? = some .any) : out ++ rs true (ps.drop (k + 1)) = full := by rw [← h, rs_drop ps star k _ hp]
theorem rs_one {ps : List P} {star : Bool} {k : Nat} {out full : List UInt8} (h : out ++ rs star (ps.drop k) = full) (hp : ps[k]? = some .one) : (out ++ [63]) ++ rs star (ps.drop (k + 1)) = full := by rw [← h, rs_drop ps star k _ hp]; simp
theorem rs_fix {ps : List P} {star : Bool} {k r : Nat} {out full : List UInt8} (h : out ++ rs star (ps.drop k) = full) (hp : ps[k]? = some (.fix r)) : (out ++ (if star then [42] else []) ++ (if special r then [92] else []) ++ Lib.encodeRune r) ++ rs false (ps.drop (k + 1)) = full := by rw [← h, rs_drop ps star k _ hp]; simp
theorem rs_end {ps : List P} {star : Bool} {out full : List UInt8} (h : out ++ rs star (ps.drop ps.length) = full) : out ++ (if star then [42] else []) = full := by rw [← h, List.drop_length]; rfl
theorem T_snoc (l : List UInt8) (b : UInt8) : T l ++ ⟨#[b]⟩ = T (l ++ [b]) := (T_app l [b]).symm
end Go.Gl
namespace Go.Proofs
open Go.RowKit Go.Gl
set_option maxRecDepth 100000 in
set_option maxHeartbeats 8000000 in
theorem Tryd.refString_any (ps : List P) (x : Nat) (w : World) (h : Tryd.Rg w 0 x ps) (hl : ps.length ≤ 100) (hok : ∀ r, .fix r ∈ ps → Ok r) :
    Calls Tryd.prog 13 #[.pointer (some ⟨x, 0, none⟩)] w fun e w' => e = .returned (.string (Gl.T (rs false ps))) ∧ Below w.heap.size w w' := by
  obtain ⟨v, a, n, c, rfl, rfl, hc, hcell⟩ := Tryd.rg_row h
  have HC : Hid _ := hcell
  have HOK : Hid _ := hok
  clear hcell h hok
  go_enter Tryd.func13, Tryd.ntmps13
  go_wp2
  go_loopw [3, 4, 5] (fun o st i wr => ∃ (k : Nat) (out : List UInt8) (star : Bool), k ≤ ps.length + 1 ∧ o = .string (Gl.T out) ∧ st = .bool star ∧ i = .int .i64 k ∧ wr = w ∧ (k ≤ ps.length → out ++ rs star (ps.drop k) = rs false ps) ∧ (ps.length < k → out = rs false ps) ∧ out.length ≤ 6 * k) (fun _ _ i _ => ps.length + 1 - (intOf i).toNat)
  case atStart => exact ⟨0, [], false, by omega, rfl, rfl, rfl, rfl, fun _ => by simp, fun h => by omega, by simp⟩
  case round =>
    obtain ⟨k, out, star, hk, rfl, rfl, rfl, rfl, hacc, hfin, hlen⟩ := hrel
    have hosz : (Gl.T out).size ≤ 606 := by rw [Gl.T_len]; omega
    by_cases hlt : k < ps.length
    · obtain ⟨p, hp⟩ : ∃ p, ps[k]? = some p := ⟨_, List.getElem?_eq_getElem hlt⟩
      obtain ⟨g, rfl, ck, cs⟩ := HC.out k p hp
      have b1 : (k : Int) < (ps.length : Int) := by omega
      have b2 : (k : Int) ≤ (ps.length : Int) := by omega
      have hac := hacc (by omega)
      clear hacc hfin HC
      cases p with
      | any =>
        have Hacc : Hid _ := rs_any hac hp
        clear hac hp
        simp only [P.kind, signT] at ck cs
        go_wp2
        go_roundw
        case rel => exact ⟨k + 1, out, true, by omega, rfl, rfl, by go_num, trivial, fun _ => Hacc.out, fun h => by omega, by omega⟩
        case measure => simp [intOf]; omega
      | one =>
        have Hacc : Hid _ := rs_one hac hp
        clear hac hp
        simp only [P.kind, signT] at ck cs
        go_wp2
        go_roundw
        case rel => exact ⟨k + 1, out ++ [63], star, by omega, by rw [← T_snoc], rfl, by go_num, trivial, fun _ => Hacc.out, fun h => by omega, by simp; omega⟩
        case measure => simp [intOf]; omega
      | fix r =>
        have hac' := rs_fix hac hp
        have hkr := HOK.out r (List.mem_of_getElem? hp)
        have her : (Lib.encodeRune (r : Int)).length ≤ 4 := Gl.enc_le r
        have herT : (Gl.T (Lib.encodeRune (r : Int))).size ≤ 4 := by rw [Gl.T_len]; exact her
        simp only [P.kind, signT] at ck cs
        clear hac hp HOK
        cases hsr : special r with
        | false =>
          have m1 := enc_ne hkr hsr 42 (.inl rfl)
          have m2 := enc_ne hkr hsr 63 (.inr (.inl rfl))
          have m3 := enc_ne hkr hsr 92 (.inr (.inr rfl))
          rw [hsr] at hac'
          have Hacc : Hid _ := hac'
          clear hac' hsr hkr
          cases star with
          | false =>
            have hT : Gl.T out ++ Gl.T (Lib.encodeRune (r : Int)) = Gl.T (out ++ Lib.encodeRune (r : Int)) := (T_app _ _).symm
            have HTT : Hid _ := hT
            clear hT
            go_wp2
            go_roundw
            case rel => exact ⟨k + 1, out ++ Lib.encodeRune (r : Int), false, by omega, by rw [← HTT.out], rfl, by go_num, trivial, fun _ => by rw [← Hacc.out]; simp, fun h => by omega, by rw [List.length_append]; omega⟩
            case measure => simp [intOf]; omega
          | true =>
            have hT : Gl.T out ++ ⟨#[42]⟩ ++ Gl.T (Lib.encodeRune (r : Int)) = Gl.T (out ++ [42] ++ Lib.encodeRune (r : Int)) := by rw [T_app, T_snoc]
            have HTT : Hid _ := hT
            clear hT
            go_wp2
            go_roundw
            case rel => exact ⟨k + 1, out ++ [42] ++ Lib.encodeRune (r : Int), false, by omega, by rw [← HTT.out], rfl, by go_num, trivial, fun _ => by rw [← Hacc.out]; simp, fun h => by omega, by simp; omega⟩
            case measure => simp [intOf]; omega
        | true =>
          rw [hsr] at hac'
          have hr3 : r = 42 ∨ r = 63 ∨ r = 92 := by
            unfold special at hsr
            simp at hsr
            omega
          clear hsr hkr
          rcases hr3 with rfl | rfl | rfl
          · have hen : Lib.encodeRune ((42 : Nat) : Int) = [42] := by kernel_rfl
            rw [hen] at hac' cs
            change wr.cell? ⟨g, k * 2 + 1, none⟩ = some (.string ⟨#[42]⟩) at cs
            have Hacc : Hid _ := hac'
            clear hac' hen her herT
            cases star with
            | false =>
              have hT : Gl.T out ++ ⟨#[92]⟩ ++ ⟨#[42]⟩ = Gl.T (out ++ [92] ++ [42]) := by rw [T_snoc, T_snoc]
              have HTT : Hid _ := hT
              clear hT
              go_wp2
              go_roundw
              case rel => exact ⟨k + 1, out ++ [92] ++ [42], false, by omega, by rw [← HTT.out], rfl, by go_num, trivial, fun _ => by rw [← Hacc.out]; simp, fun h => by omega, by simp; omega⟩
              case measure => simp [intOf]; omega
            | true =>
              have hT : Gl.T out ++ ⟨#[42]⟩ ++ ⟨#[92]⟩ ++ ⟨#[42]⟩ = Gl.T (out ++ [42] ++ [92] ++ [42]) := by rw [T_snoc, T_snoc, T_snoc]
              have HTT : Hid _ := hT
              clear hT
              go_wp2
              go_roundw
              case rel => exact ⟨k + 1, out ++ [42] ++ [92] ++ [42], false, by omega, by rw [← HTT.out], rfl, by go_num, trivial, fun _ => by rw [← Hacc.out]; simp, fun h => by omega, by simp; omega⟩
              case measure => simp [intOf]; omega
          · have hen : Lib.encodeRune ((63 : Nat) : Int) = [63] := by kernel_rfl
            rw [hen] at hac' cs
            change wr.cell? ⟨g, k * 2 + 1, none⟩ = some (.string ⟨#[63]⟩) at cs
            have Hacc : Hid _ := hac'
            clear hac' hen her herT
            cases star with
            | false =>
              have hT : Gl.T out ++ ⟨#[92]⟩ ++ ⟨#[63]⟩ = Gl.T (out ++ [92] ++ [63]) := by rw [T_snoc, T_snoc]
              have HTT : Hid _ := hT
              clear hT
              go_wp2
              go_roundw
              case rel => exact ⟨k + 1, out ++ [92] ++ [63], false, by omega, by rw [← HTT.out], rfl, by go_num, trivial, fun _ => by rw [← Hacc.out]; simp, fun h => by omega, by simp; omega⟩
              case measure => simp [intOf]; omega
            | true =>
              have hT : Gl.T out ++ ⟨#[42]⟩ ++ ⟨#[92]⟩ ++ ⟨#[63]⟩ = Gl.T (out ++ [42] ++ [92] ++ [63]) := by rw [T_snoc, T_snoc, T_snoc]
              have HTT : Hid _ := hT
              clear hT
              go_wp2
              go_roundw
              case rel => exact ⟨k + 1, out ++ [42] ++ [92] ++ [63], false, by omega, by rw [← HTT.out], rfl, by go_num, trivial, fun _ => by rw [← Hacc.out]; simp, fun h => by omega, by simp; omega⟩
              case measure => simp [intOf]; omega
          · have hen : Lib.encodeRune ((92 : Nat) : Int) = [92] := by kernel_rfl
            rw [hen] at hac' cs
            change wr.cell? ⟨g, k * 2 + 1, none⟩ = some (.string ⟨#[92]⟩) at cs
            have Hacc : Hid _ := hac'
            clear hac' hen her herT
            cases star with
            | false =>
              have hT : Gl.T out ++ ⟨#[92]⟩ ++ ⟨#[92]⟩ = Gl.T (out ++ [92] ++ [92]) := by rw [T_snoc, T_snoc]
              have HTT : Hid _ := hT
              clear hT
              go_wp2
              go_roundw
              case rel => exact ⟨k + 1, out ++ [92] ++ [92], false, by omega, by rw [← HTT.out], rfl, by go_num, trivial, fun _ => by rw [← Hacc.out]; simp, fun h => by omega, by simp; omega⟩
              case measure => simp [intOf]; omega
            | true =>
              have hT : Gl.T out ++ ⟨#[42]⟩ ++ ⟨#[92]⟩ ++ ⟨#[92]⟩ = Gl.T (out ++ [42] ++ [92] ++ [92]) := by rw [T_snoc, T_snoc, T_snoc]
              have HTT : Hid _ := hT
              clear hT
              go_wp2
              go_roundw
              case rel => exact ⟨k + 1, out ++ [42] ++ [92] ++ [92], false, by omega, by rw [← HTT.out], rfl, by go_num, trivial, fun _ => by rw [← Hacc.out]; simp, fun h => by omega, by simp; omega⟩
              case measure => simp [intOf]; omega
    · by_cases hke : k = ps.length
      · have b1 : ¬ (k : Int) < (ps.length : Int) := by omega
        have b2 : (k : Int) ≤ (ps.length : Int) := by omega
        have hac := hacc (by omega)
        rw [hke] at hac
        have Hacc : Hid _ := rs_end hac
        have HKE : Hid (k = ps.length) := hke
        clear hac hacc hfin HC HOK hke
        cases star with
        | false =>
          go_wp2
          go_roundw
          case rel => exact ⟨k + 1, out, false, by have := HKE.out; omega, rfl, rfl, by go_num, trivial, fun h => by have := HKE.out; omega, fun _ => by rw [← Hacc.out]; simp, by omega⟩
          case measure => simp [intOf]; omega
        | true =>
          go_wp2
          go_roundw
          case rel => exact ⟨k + 1, out ++ [42], false, by have := HKE.out; omega, by rw [← T_snoc], rfl, by go_num, trivial, fun h => by have := HKE.out; omega, fun _ => by rw [← Hacc.out]; simp, by simp; omega⟩
          case measure => simp [intOf]; omega
      · have b2 : ¬ (k : Int) ≤ (ps.length : Int) := by omega
        have Hf : Hid (out = rs false ps) := hfin (by omega)
        clear hacc hfin HC HOK
        go_wp2
        go_ret
        exact ⟨Sg.ret_str (by rw [Hf.out]), Below.refl _ _⟩
end Go.Proofs
