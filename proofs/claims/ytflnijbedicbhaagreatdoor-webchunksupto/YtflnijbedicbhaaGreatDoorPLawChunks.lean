/-
  Laid together by packg.py of LawChunks.
-/
import Derived.Test.YtflnijbedicbhaaGreatDoorPwE
import Derived.Test.YtflnijbedicbhaaGreatDoorPwN
import Derived.Deep.CutBlock
namespace Go.Wb
def lett (c : UInt8) : Bool := decide (97 ≤ c.toNat) && decide (c.toNat ≤ 122)
theorem lett_tok : ∀ c : UInt8, lett c = true → tok c = true ∧ txt c = true := by
  intro c h
  unfold lett at h
  simp only [Bool.and_eq_true, decide_eq_true_eq] at h
  constructor
  · unfold tok
    have : (decide (97 ≤ c.toNat) && decide (c.toNat ≤ 122)) = true := by simp [h]
    rw [this]; simp
  · unfold txt
    have : (decide (32 ≤ c.toNat) && decide (c.toNat ≤ 126)) = true := by simp; omega
    rw [this]; simp
theorem letts_tok {l : List UInt8} (h : l.all lett = true) : l.all tok = true ∧ l.all txt = true :=
  ⟨List.all_eq_true.2 fun c hc => (lett_tok c (List.all_eq_true.1 h c hc)).1, List.all_eq_true.2 fun c hc => (lett_tok c (List.all_eq_true.1 h c hc)).2⟩
theorem cat2 (a b : List UInt8) : (⟨a.toArray⟩ : ByteArray) ++ ⟨b.toArray⟩ = ⟨(a ++ b).toArray⟩ := by
  apply ByteArray.ext
  simp [ByteArray.data_append]
end Go.Wb
namespace Go.Proofs
open Go.RowKit Go.Wi Go.Wb
set_option maxRecDepth 20000 in
set_option maxHeartbeats 4000000 in
theorem Tryz.webChunks_go {w : World} (body trail : List UInt8) (hbl : body.length ≤ 1048576) (_htl : trail.length ≤ 1048576) {C : Value} {cs : List Int} (hC : Qu.Iv w C cs) (hcl : cs.length ≤ 1048576) (htab : Lib.TabIs Tryz.prog w "internal/strconv.uint64pow10" .u64 Lib.pow10Tab) :
    Calls Tryz.prog 4 #[.string ⟨body.toArray⟩, C, .string ⟨trail.toArray⟩] w fun e w' => e = .returned (.bool true) ∧ Below w.heap.size w w' := by
  have k0 := Tryz.shown_any htab
  have kn := Tryz.newParser_any
  have HC : Hid _ := hC
  obtain ⟨ac, cc, eC, hcx⟩ := hC.ex
  subst eC
  clear htab hcx hC
  go_enter Tryz.func4, Tryz.ntmps4
  go_upto_if 25 with (first
    | (go_at_call 7; refine k0.mono ?_; clear k0; rintro e w1 ⟨rfl, hb1⟩; have kn1 := kn w1; clear kn)
    | (go_at_call 12; refine kn1.mono ?_; clear kn1; rintro e w2 ⟨bp, rfl, hbp, hMp, hb2⟩)
    | fail)
  go_cut [0] (fun bv wx => wx = w2 ∧ ∃ bd : List UInt8, bv = .string ⟨bd.toArray⟩ ∧ bd.length ≤ 2000)
  case first =>
    have hz : (⟨body.toArray⟩ : ByteArray).size = body.length := by simp [ByteArray.size]
    by_cases h2 : body.length > 2000
    · have q : (body.length : Int) > 2000 := by omega
      go_wp2
      go_meet
      exact ⟨rfl, body.take 2000, by rw [ext_take], by rw [List.length_take]; omega⟩
    · have q : ¬ (body.length : Int) > 2000 := by omega
      go_wp2
      go_meet
      exact ⟨rfl, body, rfl, by omega⟩
  case rest =>
  obtain ⟨rfl, bd, rfl, hbd⟩ := hcut
  go_upto_block 0 with (fail)
  go_cut [2] (fun tv wx => wx = wc ∧ ∃ t : List UInt8, tv = .string ⟨t.toArray⟩ ∧ t.all lett = true ∧ t.length ≤ 31)
  case first =>
    have hz := text_size trail
    have HI : Hid (wc = wc ∧ (Value.string ⟨trail.toArray⟩ = .string ⟨trail.toArray⟩) ∧ ∃ i : Nat, (Value.int .i64 0 = .int .i64 i) ∧ i ≤ trail.length ∧ (trail.take i).all lett = true ∧ i ≤ 31) := ⟨rfl, rfl, 0, rfl, Nat.zero_le _, by simp, by omega⟩
    go_wp2
    go_loopw [2, 9] (fun tv iv wr => wr = wc ∧ tv = .string ⟨trail.toArray⟩ ∧ ∃ i : Nat, iv = .int .i64 i ∧ i ≤ trail.length ∧ (trail.take i).all lett = true ∧ i ≤ 31) (fun _ iv _ => trail.length - (intOf iv).toNat)
    case atStart => exact ⟨rfl, rfl, HI.out.2.2⟩
    case round =>
      clear HI
      obtain ⟨rfl, rfl, i, rfl, hi, hal, h31⟩ := hrel
      have HAL : Hid _ := hal
      clear hal
      by_cases hlt : i < trail.length
      · have q : (i : Int) < (trail.length : Int) := by omega
        have hix := at_text hlt
        have HN : Hid (lett trail[i] = true → (trail.take (i + 1)).all lett = true) := fun e => all_take hlt HAL.out e
        have HX : Hid ((⟨trail.toArray⟩ : ByteArray).extract 0 i = ⟨(trail.take i).toArray⟩) := ext_take trail i
        have HLL : Hid ((trail.take i).length ≤ 31) := (by show _ ≤ _; rw [List.length_take]; omega)
        have HLT : Hid (lett trail[i] = (decide (97 ≤ trail[i].toNat) && decide (trail[i].toNat ≤ 122))) := rfl
        by_cases h1 : trail[i].toNat < 97
        · have q1 : ((trail[i].toNat : Nat) : Int) < 97 := by omega
          go_wp2
          go_meet
          exact ⟨rfl, trail.take i, by rw [HX.out], HAL.out, HLL.out⟩
        · have q1 : ¬ ((trail[i].toNat : Nat) : Int) < 97 := by omega
          by_cases h2 : 122 < trail[i].toNat
          · have q2 : ((trail[i].toNat : Nat) : Int) > 122 := by omega
            go_wp2
            go_meet
            exact ⟨rfl, trail.take i, by rw [HX.out], HAL.out, HLL.out⟩
          · have q2 : ¬ ((trail[i].toNat : Nat) : Int) > 122 := by omega
            by_cases h3 : 30 < i
            · have q3 : (i : Int) > 30 := by omega
              go_wp2
              go_meet
              exact ⟨rfl, trail.take i, by rw [HX.out], HAL.out, HLL.out⟩
            · have q3 : ¬ (i : Int) > 30 := by omega
              have HNN : Hid ((trail.take (i + 1)).all lett = true) := HN.out (by rw [HLT.out]; simp; omega)
              go_wp2
              go_roundw
              case rel => exact ⟨by trivial, by trivial, i + 1, by simp, by omega, HNN.out, by omega⟩
              case measure => simp [intOf]; omega
      · have q : ¬ (i : Int) < (trail.length : Int) := by omega
        have HE : Hid (trail.take i = trail) := List.take_of_length_le (by omega)
        go_wp2
        go_meet
        exact ⟨rfl, trail, rfl, by rw [← HE.out]; exact HAL.out, by omega⟩
  case rest =>
  obtain ⟨rfl, t, rfl, htlt, htle⟩ := hcut
  have hB2 := hb1.trans (hb2.mono hb1.size)
  have kp := Tryz.pieces_any (HC.out.keep hB2) hcl bd (by omega)
  have hfl := pieces_flat bd cs
  have hLl := pieces_len bd cs
  generalize hL0 : piecesL bd cs = L at *
  clear hL0 HC
  go_upto_region 14 with (first
    | (go_at_call 13; refine kp.mono ?_; clear kp; rintro e w6 ⟨VL, rfl, hrow, hb6⟩)
    | fail)
  obtain ⟨adL, capL, eL, hLx⟩ := (Ss.ofRow hrow).ex
  subst eL
  have HLX : Hid _ := hLx
  have HFL : Hid (L.flatten = bd) := hfl
  have hL0 : L.length ≤ 1048577 := by omega
  have HM6 : Hid (Tryz.Ms 82 w6 (fun k => k = bp) bp (newReq 0)) := hMp.below hb6
  have HB6 : Hid (Below w.heap.size w w6) := hB2.trans (hb6.mono hB2.size)
  have HBP : Hid (w.heap.size ≤ bp) := Nat.le_trans hb1.size hbp
  have HI : Hid (∃ (i n : Nat), (Value.int .i64 0 = .int .i64 i) ∧ i ≤ L.length ∧ (Value.string ⟨chHead.toArray⟩ = .string ⟨(chHead ++ chunksT t (L.take i)).toArray⟩) ∧ w6 = w6.drewN n) := ⟨0, 0, rfl, Nat.zero_le _, by simp [chunksT], rfl⟩
  clear hLx hfl hLl hB2 hb6 hMp hb1 hb2 hrow hbp
  go_wp2
  go_loopw [10, 12] (fun sv iv wr => ∃ (i n : Nat), iv = .int .i64 i ∧ i ≤ L.length ∧ sv = .string ⟨(chHead ++ chunksT t (L.take i)).toArray⟩ ∧ wr = w6.drewN n) (fun _ iv _ => L.length - (intOf iv).toNat)
  case atStart => exact HI.out
  case round =>
    clear HI
    obtain ⟨i, n, rfl, hi, rfl, rfl⟩ := hrel
    have htk := letts_tok htlt
    have hcz := chunksT_len t htle (L.take i)
    have hfa := flat_len L i
    rw [HFL.out] at hfa
    by_cases hlt : i < L.length
    · have q : (i : Int) < (L.length : Int) := by omega
      obtain ⟨g, eg, c0⟩ : ∃ g, adL = some ⟨g, 0, none⟩ ∧ w6.cell? ⟨g, i, none⟩ = some (.string ⟨L[i].toArray⟩) := by
        rcases HLX.out with e | ⟨g, e, hg, hc⟩
        · rw [e] at hlt; cases hlt
        · exact ⟨g, e, hc i hlt⟩
      subst eg
      have hnx := chunksT_next (t := t) hlt
      have hfb := flat_len L (i + 1)
      rw [HFL.out, flat_next hlt, List.length_append] at hfb
      have hxz := text_size L[i]
      have HNX : Hid (chHead ++ chunksT t (L.take (i + 1)) = chHead ++ chunksT t (L.take i) ++ (if L[i] = [] then [] else chunkT t L[i])) := (by show _ = _; rw [hnx, List.append_assoc])
      have hSl : (chHead ++ chunksT t (L.take i)).length ≤ 90000 := by
        rw [List.length_append]
        have : chHead.length = 56 := rfl
        omega
      have hxl : L[i].length ≤ 2000 := by omega
      generalize chHead ++ chunksT t (L.take i) = S at *
      generalize L[i] = x at *
      clear hnx hfb hfa hcz htk
      by_cases hx : x = []
      · subst hx
        have HNE : Hid (chHead ++ chunksT t (L.take (i + 1)) = S) := (by show _ = _; rw [HNX.out, if_pos rfl, List.append_nil])
        have c1 : (w6.drewN n).cell? ⟨g, i, none⟩ = some (.string ⟨#[]⟩) := c0
        go_wp2
        go_roundw
        case rel => exact ⟨i + 1, n, by simp, by omega, by rw [HNE.out], rfl⟩
        case measure => simp [intOf]; omega
      · have hx1 : 1 ≤ x.length := by
          rcases Nat.eq_zero_or_pos x.length with e | e
          · exact absurd (List.eq_nil_of_length_eq_zero e) hx
          · exact e
        have qx : (x.length : Int) > 0 := by omega
        have c1 : (w6.drewN n).cell? ⟨g, i, none⟩ = some (.string ⟨x.toArray⟩) := c0
        have kh := Tryz.hex_any x.length hx1 hxl
        have hh := (hexL_len x.length).1
        have HNE : Hid (chHead ++ chunksT t (L.take (i + 1)) = S ++ chunkT t x) := (by show _ = _; rw [HNX.out, if_neg hx])
        have a1 : ¬ 9223372036854775807 < S.length + (hexL x.length).length := by omega
        have a2 : ¬ 9223372036854775807 < S.length + (hexL x.length).length + 1 := by omega
        have a3 : ¬ 9223372036854775807 < S.length + (hexL x.length).length + 1 + t.length := by omega
        have a4 : ¬ 9223372036854775807 < S.length + (hexL x.length).length + 1 + t.length + 2 := by omega
        have a5 : ¬ 9223372036854775807 < S.length + (hexL x.length).length + 1 + t.length + 2 + x.length := by omega
        have a6 : ¬ 9223372036854775807 < S.length + (hexL x.length).length + 1 + t.length + 2 + x.length + 2 := by omega
        have HCT : Hid ((⟨S.toArray⟩ : ByteArray) ++ ⟨(hexL x.length).toArray⟩ ++ ⟨#[59]⟩ ++ ⟨t.toArray⟩ ++ ⟨#[13, 10]⟩ ++ ⟨x.toArray⟩ ++ ⟨#[13, 10]⟩ = ⟨(S ++ chunkT t x).toArray⟩) := (by
          show _ = _
          rw [show (⟨#[59]⟩ : ByteArray) = ⟨([59] : List UInt8).toArray⟩ from rfl, show (⟨#[13, 10]⟩ : ByteArray) = ⟨([13, 10] : List UInt8).toArray⟩ from rfl, cat2, cat2, cat2, cat2, cat2, cat2]
          unfold chunkT
          simp)
        clear HNX hx
        go_upto_region 18 with (fail)
        refine wp_region_quiet (C := fun W => ∃ k, W = w6.drewN k) (by kernel_rfl) (by kernel_rfl) ⟨n + 1, rfl⟩ ?_
        dsimp only
        refine Go.Wb.q_valW (v := .string ⟨S.toArray⟩) (by kernel_rfl) (fun W _ => by go_simp) ?_
        try simp only [Act.put, List.setIfInBounds_toArray, List.set_cons_zero, List.set_cons_succ]
        refine Go.Wb.q_valW (v := .slice (some ⟨g, 0, none⟩) L.length capL) (by kernel_rfl) (fun W _ => by go_simp) ?_
        try simp only [Act.put, List.setIfInBounds_toArray, List.set_cons_zero, List.set_cons_succ]
        refine Go.Wb.q_valW (v := .int .i64 i) (by kernel_rfl) (fun W _ => by go_simp) ?_
        try simp only [Act.put, List.setIfInBounds_toArray, List.set_cons_zero, List.set_cons_succ]
        refine Go.Wb.q_valW (v := .pointer (some ⟨g, i, none⟩)) (by kernel_rfl) (fun W _ => by go_simp) ?_
        try simp only [Act.put, List.setIfInBounds_toArray, List.set_cons_zero, List.set_cons_succ]
        refine Go.Wb.q_valW (v := .string ⟨x.toArray⟩) (by kernel_rfl) (fun W hW => by obtain ⟨k, rfl⟩ := hW; have x0 : (w6.drewN k).cell? ⟨g, i, none⟩ = _ := c0; go_simp) ?_
        try simp only [Act.put, List.setIfInBounds_toArray, List.set_cons_zero, List.set_cons_succ]
        refine Go.Wb.q_valW (v := .int .i64 x.length) (by kernel_rfl) (fun W _ => by go_simp) ?_
        try simp only [Act.put, List.setIfInBounds_toArray, List.set_cons_zero, List.set_cons_succ]
        refine Go.Wb.q_callW (v := .string ⟨(hexL x.length).toArray⟩) (f := 14) (args := #[.int .i64 x.length]) (by kernel_rfl) (fun _ _ => by kernel_rfl) (fun W hW => (kh W).mono fun _ _ ⟨h2, h3⟩ => ⟨h2, by rw [h3]; exact hW⟩) ?_
        try simp only [Act.put, List.setIfInBounds_toArray, List.set_cons_zero, List.set_cons_succ]
        refine Go.Wb.q_valW (v := .string ((⟨S.toArray⟩ : ByteArray) ++ ⟨(hexL x.length).toArray⟩)) (by kernel_rfl) (fun W _ => by go_simp) ?_
        try simp only [Act.put, List.setIfInBounds_toArray, List.set_cons_zero, List.set_cons_succ]
        refine Go.Wb.q_valW (v := .string ((⟨S.toArray⟩ : ByteArray) ++ ⟨(hexL x.length).toArray⟩ ++ ⟨#[59]⟩)) (by kernel_rfl) (fun W _ => by go_simp) ?_
        try simp only [Act.put, List.setIfInBounds_toArray, List.set_cons_zero, List.set_cons_succ]
        refine Go.Wb.q_valW (v := .string ⟨t.toArray⟩) (by kernel_rfl) (fun W _ => by go_simp) ?_
        try simp only [Act.put, List.setIfInBounds_toArray, List.set_cons_zero, List.set_cons_succ]
        refine Go.Wb.q_valW (v := .string ((⟨S.toArray⟩ : ByteArray) ++ ⟨(hexL x.length).toArray⟩ ++ ⟨#[59]⟩ ++ ⟨t.toArray⟩)) (by kernel_rfl) (fun W _ => by go_simp) ?_
        try simp only [Act.put, List.setIfInBounds_toArray, List.set_cons_zero, List.set_cons_succ]
        refine Go.Wb.q_valW (v := .string ((⟨S.toArray⟩ : ByteArray) ++ ⟨(hexL x.length).toArray⟩ ++ ⟨#[59]⟩ ++ ⟨t.toArray⟩ ++ ⟨#[13, 10]⟩)) (by kernel_rfl) (fun W _ => by go_simp) ?_
        try simp only [Act.put, List.setIfInBounds_toArray, List.set_cons_zero, List.set_cons_succ]
        refine Go.Wb.q_valW (v := .slice (some ⟨g, 0, none⟩) L.length capL) (by kernel_rfl) (fun W _ => by go_simp) ?_
        try simp only [Act.put, List.setIfInBounds_toArray, List.set_cons_zero, List.set_cons_succ]
        refine Go.Wb.q_valW (v := .int .i64 i) (by kernel_rfl) (fun W _ => by go_simp) ?_
        try simp only [Act.put, List.setIfInBounds_toArray, List.set_cons_zero, List.set_cons_succ]
        refine Go.Wb.q_valW (v := .pointer (some ⟨g, i, none⟩)) (by kernel_rfl) (fun W _ => by go_simp) ?_
        try simp only [Act.put, List.setIfInBounds_toArray, List.set_cons_zero, List.set_cons_succ]
        refine Go.Wb.q_valW (v := .string ⟨x.toArray⟩) (by kernel_rfl) (fun W hW => by obtain ⟨k, rfl⟩ := hW; have x0 : (w6.drewN k).cell? ⟨g, i, none⟩ = _ := c0; go_simp) ?_
        try simp only [Act.put, List.setIfInBounds_toArray, List.set_cons_zero, List.set_cons_succ]
        refine Go.Wb.q_valW (v := .string ((⟨S.toArray⟩ : ByteArray) ++ ⟨(hexL x.length).toArray⟩ ++ ⟨#[59]⟩ ++ ⟨t.toArray⟩ ++ ⟨#[13, 10]⟩ ++ ⟨x.toArray⟩)) (by kernel_rfl) (fun W _ => by go_simp) ?_
        try simp only [Act.put, List.setIfInBounds_toArray, List.set_cons_zero, List.set_cons_succ]
        refine Go.Wb.q_valW (v := .string ((⟨S.toArray⟩ : ByteArray) ++ ⟨(hexL x.length).toArray⟩ ++ ⟨#[59]⟩ ++ ⟨t.toArray⟩ ++ ⟨#[13, 10]⟩ ++ ⟨x.toArray⟩ ++ ⟨#[13, 10]⟩)) (by kernel_rfl) (fun W _ => by go_simp) ?_
        try simp only [Act.put, List.setIfInBounds_toArray, List.set_cons_zero, List.set_cons_succ]
        refine Go.Wb.q_valW (v := .string ((⟨S.toArray⟩ : ByteArray) ++ ⟨(hexL x.length).toArray⟩ ++ ⟨#[59]⟩ ++ ⟨t.toArray⟩ ++ ⟨#[13, 10]⟩ ++ ⟨x.toArray⟩ ++ ⟨#[13, 10]⟩)) (by kernel_rfl) (fun W _ => by go_simp) ?_
        try simp only [Act.put, List.setIfInBounds_toArray, List.set_cons_zero, List.set_cons_succ]
        refine wpQuiet_nil ?_
        rintro W ⟨k, rfl⟩
        rw [HCT.out]
        go_wp2
        go_roundw
        case rel => exact ⟨i + 1, k, by simp, by omega, by rw [HNE.out], rfl⟩
        case measure => simp [intOf]; omega
    · have q : ¬ (i : Int) < (L.length : Int) := by omega
      have htake : L.take i = L := List.take_of_length_le (by omega)
      rw [htake] at hcz hfa
      rw [htake]
      rw [HFL.out] at hcz
      have hSl : (chHead ++ chunksT t L).length ≤ 90000 := by
        rw [List.length_append]
        have : chHead.length = 56 := rfl
        omega
      obtain ⟨nn, hfd⟩ := fd_chunks t htk.2 htk.1 (by omega) L (by rw [HFL.out]; exact hbd)
      have HFD : Hid _ := hfd
      clear hfd hcz hfa htake
      generalize chHead ++ chunksT t L = S at *
      have b1 : ¬ 9223372036854775807 < S.length + 3 := by omega
      have b2 : ¬ 9223372036854775807 < S.length + 3 + t.length := by omega
      have b3 : ¬ 9223372036854775807 < S.length + 3 + t.length + 5 := by omega
      go_upto_if 87 with (fail)
      go_cut [10] (fun sv wx => wx = w6.drewN n ∧ sv = .string ⟨(S ++ [48, 13, 10] ++ trailT t).toArray⟩)
      case first =>
        have HE0 : Hid (t = [] → (⟨S.toArray⟩ : ByteArray) ++ ⟨#[48, 13, 10]⟩ = ⟨(S ++ [48, 13, 10] ++ trailT t).toArray⟩) := fun ht0 => (by
          rw [show (⟨#[48, 13, 10]⟩ : ByteArray) = ⟨([48, 13, 10] : List UInt8).toArray⟩ from rfl, cat2, trailT, if_pos ht0, List.append_nil])
        have HE1 : Hid (t ≠ [] → (⟨S.toArray⟩ : ByteArray) ++ ⟨#[48, 13, 10]⟩ ++ ⟨t.toArray⟩ ++ ⟨#[58, 32, 120, 13, 10]⟩ = ⟨(S ++ [48, 13, 10] ++ trailT t).toArray⟩) := fun ht0 => (by
          rw [show (⟨#[48, 13, 10]⟩ : ByteArray) = ⟨([48, 13, 10] : List UInt8).toArray⟩ from rfl, show (⟨#[58, 32, 120, 13, 10]⟩ : ByteArray) = ⟨([58, 32, 120, 13, 10] : List UInt8).toArray⟩ from rfl, cat2, cat2, cat2, trailT, if_neg ht0]
          simp)
        go_wp2
        · go_meet
          have hh : (!t.isEmpty) = true := by assumption
          exact ⟨rfl, by rw [HE1.out (by simpa using hh)]⟩
        · go_meet
          have hh : (!t.isEmpty) = false := by assumption
          exact ⟨rfl, by rw [HE0.out (by simpa using hh)]⟩
      case rest =>
      obtain ⟨rfl, rfl⟩ := hcut
      have htt : (trailT t).length ≤ 36 := by unfold trailT; split; simp; simp; omega
      have hAl : (S ++ [48, 13, 10] ++ trailT t).length ≤ 90100 := by simp only [List.length_append, List.length_cons, List.length_nil]; omega
      have HE : Hid ((⟨(S ++ [48, 13, 10] ++ trailT t).toArray⟩ : ByteArray) ++ ⟨#[13, 10]⟩ ++ ⟨#[71, 69, 84, 32, 47, 97, 32, 72, 84, 84, 80, 47, 49, 46, 49, 13, 10, 72, 111, 115, 116, 58, 32, 120, 13, 10, 13, 10]⟩ = ⟨(S ++ ([48, 13, 10] ++ trailT t ++ [13, 10]) ++ helloL).toArray⟩) := (by
        show _ = _
        rw [show (⟨#[13, 10]⟩ : ByteArray) = ⟨([13, 10] : List UInt8).toArray⟩ from rfl, show (⟨#[71, 69, 84, 32, 47, 97, 32, 72, 84, 84, 80, 47, 49, 46, 49, 13, 10, 72, 111, 115, 116, 58, 32, 120, 13, 10, 13, 10]⟩ : ByteArray) = ⟨helloL.toArray⟩ from rfl, cat2, cat2]
        simp)
      have hFl : (S ++ ([48, 13, 10] ++ trailT t ++ [13, 10]) ++ helloL).length ≤ 91000 := by
        have : helloL.length = 28 := rfl
        simp only [List.length_append, List.length_cons, List.length_nil] at hAl ⊢
        omega
      have hfi := fi_new.fd (S ++ ([48, 13, 10] ++ trailT t ++ [13, 10]) ++ helloL)
      rw [HFD.out] at hfi
      have hnn : nn ≤ 91000 := by have h1 : (newReq nn).at_ ≤ 0 + _ := hfi.at_; have h2 : (newReq nn).at_ = nn := rfl; omega
      generalize S ++ [48, 13, 10] ++ trailT t = A at *
      have b4 : ¬ 9223372036854775807 < A.length + 2 := by omega
      have b5 : ¬ 9223372036854775807 < A.length + 2 + 28 := by omega
      go_upto_region 23 with (fail)
      rw [HE.out]
      generalize S ++ ([48, 13, 10] ++ trailT t ++ [13, 10]) ++ helloL = FT at *
      have hcv := Tryz.conv_text FT
      have kf := Tryz.feed_text (HM6.out.below (belowN (Below.refl _ w6) n)) (good_newReq 0) FT (by show 0 + FT.length ≤ _; omega) (by omega)
      rw [HFD.out] at kf
      have HB7 : Hid (Below w.heap.size w (Lib.bytesWorld (w6.drewN n) 5 ⟨FT.toArray⟩)) := (belowN HB6.out n).trans ((bytesW_below (w6.drewN n) 5 ⟨FT.toArray⟩).mono HB6.out.size)
      clear hfi HE b1 b2 b3 b4 b5 hAl hFl
      go_upto_region 24 with (first
        | (go_at_call 15; refine kf.mono ?_; clear kf hcv; rintro e w8 ⟨adM, nM, capM, ev', oP', rfl, hF⟩)
        | fail)
      have hrl := hF.rl
      obtain ⟨g1, cp1, p1, ex1, hg1, -, hq1, hat1⟩ := Tryz.rl_at hrl (i := 0) (by simp)
      obtain ⟨g2, cp2, p2, ex2, hg2, -, hq2, hat2⟩ := Tryz.rl_at hrl (i := 1) (by simp)
      injection ex1 with ea1 eb1 ec1
      injection ex2 with ea2 eb2 ec2
      have eg : g1 = g2 := by rw [ea1] at ea2; cases ea2; rfl
      subst eg
      have eb3 : nM = 2 := eb1
      subst ea1 eb3
      have hq1' : p1.rq = ⟨[80, 79, 83, 84], [47, 99], [(wHost, [120]), (wCoding, [67, 104, 117, 110, 107, 101, 100])], L.flatten, false⟩ := hq1
      have hq2' : p2.rq = ⟨[71, 69, 84], [47, 97], [([104, 111, 115, 116], [120])], [], false⟩ := hq2
      rw [HFL.out] at hq1'
      obtain rfl : ev' = .nilIface := by
        rcases hF.err with ⟨_, e⟩ | ⟨e, _⟩
        · exact e
        · exact absurd rfl e
      have y0 : w8.cell? ⟨g1, 0, none⟩ = some (.string ⟨#[80, 79, 83, 84]⟩) := by have := hat1.c0; rw [hq1'] at this; exact this
      have y3 : w8.cell? ⟨g1, 3, none⟩ = some p1.vb := hat1.c3
      have y6 : w8.cell? ⟨g1, 6, none⟩ = some (.string ⟨#[47, 97]⟩) := by have := hat2.c1; rw [hq2'] at this; exact this
      have hvb : p1.vb = .slice p1.ab bd.length p1.cb := by unfold Pr.vb; rw [hq1']
      have hbs := Bs.ofRow hat1.ok.body
      rw [hvb] at y3 hbs
      rw [hq1'] at hbs
      have v1 := Tryz.conv_bs hbs
      have kw := Tryz.waits_any hF.ms (by show nn ≤ _; omega) (by show nn ≤ _; omega)
      have hwi : Wb.waitsI (newReq nn) = 0 := by
        unfold Wb.waitsI
        rw [show Wb.over (newReq nn) = false from rfl]
        show (nn : Int) - nn = 0
        omega
      rw [hwi] at kw
      have HBE : Hid (Below w.heap.size w w8) := Wo.toBelow HB7.out hF.wo (fun k e => by rw [e]; exact HBP.out) HB7.out.size
      clear hat1 hat2 hF hrl hbs hvb hq1 hq2 hq1' hq2'
      go_wp2_with (first
        | (go_at_call 16; refine kw.mono ?_; clear kw; rintro e wa ⟨rfl, na, rfl⟩)
        | fail)
      go_ret
      exact ⟨rfl, belowN HBE.out na⟩
theorem Tryz.webChunksWalk (x0 : ByteArray) (u0 : x0.size ≤ 1048576) (V : Value) {w : World} (b1 : ∃ l, Qu.Iv w V l ∧ l.length ≤ 1048576) (x2 : ByteArray) (u2 : x2.size ≤ 1048576) (hT : Lib.TabIs Tryz.prog w "internal/strconv.uint64pow10" .u64 Lib.pow10Tab) :
    Calls Tryz.prog 4 #[.string x0, V, .string x2] w fun e w' => e = .returned (.bool true) ∧ Below w.heap.size w w' := by
  obtain ⟨l, hl, hn⟩ := b1
  exact Tryz.webChunks_go x0.data.toList x2.data.toList u0 u2 hl hn hT
end Go.Proofs
