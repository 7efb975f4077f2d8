/-
  Laid together by packg.py of Jr9 Jn1 Jn2.
-/
import Derived.Test.YtcakkkafanpjaaaGreatDoorQaD
import Derived.Shelf.Strings.SlTrimAscii
import Derived.Deep.DeepCutAuto
namespace Go.Proofs
open Go.RowKit Go.Jv
theorem Tryz.trimDigits (s : ByteArray) (w : World) :
    Calls Tryz.prog 175 #[.string s, .string ⟨#[48, 49, 50, 51, 52, 53, 54, 55, 56, 57]⟩] w fun e w' => e = .returned (.string (dg2 s)) ∧ Below w.heap.size w w' := by
  have h := Any.strings_TrimLeft_laid Tryz.lays161 (by kernel_rfl) s ⟨#[48, 49, 50, 51, 52, 53, 54, 55, 56, 57]⟩ w (by decide) (fun j b hb => by
    have : b ∈ ([48, 49, 50, 51, 52, 53, 54, 55, 56, 57] : List UInt8) := List.mem_of_getElem? hb
    revert this
    simp only [List.mem_cons, List.not_mem_nil, or_false]
    rintro (rfl | rfl | rfl | rfl | rfl | rfl | rfl | rfl | rfl | rfl) <;> decide)
  have e : Lib.trimLeftS s.data.toList [48, 49, 50, 51, 52, 53, 54, 55, 56, 57] = s.data.toList.dropWhile isDigit := by
    unfold Lib.trimLeftS
    congr 1
    funext c
    have hd : ∀ n : Fin 256, ([48, 49, 50, 51, 52, 53, 54, 55, 56, 57] : List UInt8).contains (UInt8.ofNat n) = isDigit (UInt8.ofNat n) := by decide +kernel
    have := hd ⟨c.toNat, c.toNat_lt⟩
    simpa using this
  unfold dg2
  rw [← e]
  exact h
theorem Jv.dg_size (s : ByteArray) : (dg1 s).size + (dg2 s).size = s.size := by
  have h := congrArg List.length (List.takeWhile_append_dropWhile (p := isDigit) (l := s.data.toList))
  rw [List.length_append] at h
  have e1 : (dg1 s).size = (s.data.toList.takeWhile isDigit).length := by simp [dg1, ByteArray.size]
  have e2 : (dg2 s).size = (s.data.toList.dropWhile isDigit).length := by simp [dg2, ByteArray.size]
  have e3 : s.size = s.data.toList.length := by rw [Array.length_toList]; rfl
  omega
theorem Jv.dg1_eq (s : ByteArray) (k : Nat) (h : k = (dg1 s).size) : s.extract 0 k = dg1 s := by
  subst h
  apply ByteArray.ext
  rw [ByteArray.data_extract]
  apply Array.ext'
  have h := List.takeWhile_append_dropWhile (p := isDigit) (l := s.data.toList)
  have e : (dg1 s).size = (s.data.toList.takeWhile isDigit).length := by simp [dg1, ByteArray.size]
  rw [e]
  simp only [Array.toList_extract, List.extract_eq_take_drop, List.drop_zero, Nat.sub_zero, dg1]
  have h5 : List.take (s.data.toList.takeWhile isDigit).length (s.data.toList.takeWhile isDigit ++ s.data.toList.dropWhile isDigit) = s.data.toList.takeWhile isDigit := List.take_left
  rw [h] at h5
  exact h5
theorem Jv.ret_str2 {a b c : ByteArray} (h : a = b) : Ending.returned (.tuple #[.string a, .string c]) = .returned (.tuple #[.string b, .string c]) := by rw [h]
theorem Jv.ret_str {a b : ByteArray} (h : a = b) : Ending.returned (.string a) = .returned (.string b) := by rw [h]
theorem Tryz.digits_any (s : ByteArray) (hs : s.size ≤ 5000) (w : World) :
    Calls Tryz.prog 152 #[.string s] w fun e w' => e = .returned (.tuple #[.string (dg1 s), .string (dg2 s)]) ∧ Below w.heap.size w w' := by
  have h1 := Jv.dg_size s
  have h2 := Jv.dg1_eq s
  have H2 : Hid (∀ k, k = (dg1 s).size → s.extract 0 k = dg1 s) := h2
  have H1 : Hid ((dg1 s).size + (dg2 s).size = s.size) := h1
  have h3 : (dg2 s).size ≤ s.size := by omega
  clear h1 h2
  go_enter Tryz.func152, Tryz.ntmps152
  go_wp2_with (first | (go_at_call 175; refine (Tryz.trimDigits _ _).mono ?_; rintro e w1 ⟨rfl, hb1⟩) | fail)
  go_ret2
  exact ⟨Jv.ret_str2 (H2.out _ (by have := H1.out; omega)), hb1⟩
theorem Jv.emp_iff (x : ByteArray) : x = emp ↔ x.toList.isEmpty = true := by
  constructor
  · rintro rfl; rw [ByteArray.toList_eq]; rfl
  · intro h
    have h1 : x.toList = [] := List.isEmpty_iff.1 h
    rw [ByteArray.toList_eq] at h1
    obtain ⟨x⟩ := x; cases x with | mk l => simp at h1; subst h1; rfl
theorem Jv.pre_size {x : ByteArray} {c : UInt8} (h : pre x c = true) : (1 : Int) ≤ x.size := by
  have e3 : x.size = x.data.toList.length := by rw [Array.length_toList]; rfl
  unfold pre Lib.hasPrefix at h
  cases hl : x.data.toList with
  | nil => rw [hl] at h; simp at h
  | cons a l => rw [hl] at e3; simp at e3; omega
theorem Jv.trim_size (s : ByteArray) : (trim s).size ≤ s.size := by
  have e : (trim s).size = (Lib.trimPrefix s.data.toList [45]).length := by simp [trim, ByteArray.size]
  have e3 : s.size = s.data.toList.length := by rw [Array.length_toList]; rfl
  rw [e, e3]
  unfold Lib.trimPrefix
  split
  · simp
  · exact Nat.le_refl _
end Go.Proofs
namespace Go.Proofs
open Go.RowKit Go.Jv
set_option maxHeartbeats 4000000 in
theorem Tryz.num_nn (s a r : ByteArray) (_hs : s.size ≤ 5000) (w : World) (hae : a.toList.isEmpty = false) (hD0 : ∀ w, Calls Tryz.prog 152 #[.string (trim s)] w fun e w' => e = .returned (.tuple #[.string a, .string r]) ∧ Below w.heap.size w w') (_hrs : r.size ≤ 5000) (h0 : 0 < a.size) (x0 : UInt8) (hg : a[0]'h0 = x0) (hc : (a.size : Int) ≤ 1 ∨ ((1 < (a.size : Int)) ∧ ((x0.toNat : Int) == 48) = false)) (n46 : pre r 46 = false) (m101 : pre r 101 = false) (m69 : pre r 69 = false) (HM : Hid (isNumber s = num2 nought r)) :
    Calls Tryz.prog 121 #[.string s] w fun e w' => e = .returned (.bool (isNumber s)) ∧ Below w.heap.size w w' := by
  have hTP : ∀ w, Calls Tryz.prog 153 #[.string s, .string ⟨#[45]⟩] w fun e w' => e = .returned (.string (trim s)) ∧ w' = w := fun w => Tryz.strings_TrimPrefix s ⟨#[45]⟩ w
  have hHP : ∀ x c w, Calls Tryz.prog 139 #[.string x, .string ⟨#[c]⟩] w fun e w' => e = .returned (.bool (pre x c)) ∧ w' = w := fun x c w => Tryz.strings_HasPrefix x ⟨#[c]⟩ w
  have HX : Hid (isNumber s = num3 nought nought r) := HM.out.trans (by unfold num2; exact if_neg (by rw [m101, m69]; simp))
  clear HM
  rcases hc with hc | ⟨hc, hc2⟩
  · skip
    have hp' : ¬ nought = emp := by decide
    have hq' : ¬ nought = emp := by decide
    by_cases hr : r.toList.isEmpty = true
    · have Hr' : Hid (r = emp) := (Jv.emp_iff r).2 hr
      go_enter Tryz.func121, Tryz.ntmps121
      go_wp2_with (first | (go_at_call 153; refine (hTP _).mono ?_; rintro e9 w9 ⟨rfl, rfl⟩) | (go_at_call 139; refine (hHP _ _ _).mono ?_; rintro e9 w9 ⟨rfl, rfl⟩) | (go_at_call 152; first | (refine (hD0 _).mono ?_; clear hD0; rintro e9 w1 ⟨rfl, hb1⟩) | (refine (hD1 _).mono ?_; clear hD1; rintro e9 w2 ⟨rfl, hb2⟩; replace hb1 := hb1.trans (hb2.mono hb1.size)) | (refine (hD2 _).mono ?_; clear hD2; rintro e9 w3 ⟨rfl, hb3⟩; replace hb1 := hb1.trans (hb3.mono hb1.size))) | fail)
      go_ret
      exact ⟨Jv.ret_bool (by rw [HX.out]; unfold num3; symm; simp [hp', Hr'.out]), hb1⟩
    · have hr' : ¬ r = emp := fun h => hr ((Jv.emp_iff r).1 h)
      have hr1 : r.toList.isEmpty = false := by simpa using hr
      clear hr
      go_enter Tryz.func121, Tryz.ntmps121
      go_wp2_with (first | (go_at_call 153; refine (hTP _).mono ?_; rintro e9 w9 ⟨rfl, rfl⟩) | (go_at_call 139; refine (hHP _ _ _).mono ?_; rintro e9 w9 ⟨rfl, rfl⟩) | (go_at_call 152; first | (refine (hD0 _).mono ?_; clear hD0; rintro e9 w1 ⟨rfl, hb1⟩) | (refine (hD1 _).mono ?_; clear hD1; rintro e9 w2 ⟨rfl, hb2⟩; replace hb1 := hb1.trans (hb2.mono hb1.size)) | (refine (hD2 _).mono ?_; clear hD2; rintro e9 w3 ⟨rfl, hb3⟩; replace hb1 := hb1.trans (hb3.mono hb1.size))) | fail)
      go_ret
      exact ⟨Jv.ret_bool (by rw [HX.out]; unfold num3; symm; simp [hp', hr']), hb1⟩
  · skip
    have hp' : ¬ nought = emp := by decide
    have hq' : ¬ nought = emp := by decide
    by_cases hr : r.toList.isEmpty = true
    · have Hr' : Hid (r = emp) := (Jv.emp_iff r).2 hr
      go_enter Tryz.func121, Tryz.ntmps121
      go_wp2_with (first | (go_at_call 153; refine (hTP _).mono ?_; rintro e9 w9 ⟨rfl, rfl⟩) | (go_at_call 139; refine (hHP _ _ _).mono ?_; rintro e9 w9 ⟨rfl, rfl⟩) | (go_at_call 152; first | (refine (hD0 _).mono ?_; clear hD0; rintro e9 w1 ⟨rfl, hb1⟩) | (refine (hD1 _).mono ?_; clear hD1; rintro e9 w2 ⟨rfl, hb2⟩; replace hb1 := hb1.trans (hb2.mono hb1.size)) | (refine (hD2 _).mono ?_; clear hD2; rintro e9 w3 ⟨rfl, hb3⟩; replace hb1 := hb1.trans (hb3.mono hb1.size))) | fail)
      go_ret
      exact ⟨Jv.ret_bool (by rw [HX.out]; unfold num3; symm; simp [hp', Hr'.out]), hb1⟩
    · have hr' : ¬ r = emp := fun h => hr ((Jv.emp_iff r).1 h)
      have hr1 : r.toList.isEmpty = false := by simpa using hr
      clear hr
      go_enter Tryz.func121, Tryz.ntmps121
      go_wp2_with (first | (go_at_call 153; refine (hTP _).mono ?_; rintro e9 w9 ⟨rfl, rfl⟩) | (go_at_call 139; refine (hHP _ _ _).mono ?_; rintro e9 w9 ⟨rfl, rfl⟩) | (go_at_call 152; first | (refine (hD0 _).mono ?_; clear hD0; rintro e9 w1 ⟨rfl, hb1⟩) | (refine (hD1 _).mono ?_; clear hD1; rintro e9 w2 ⟨rfl, hb2⟩; replace hb1 := hb1.trans (hb2.mono hb1.size)) | (refine (hD2 _).mono ?_; clear hD2; rintro e9 w3 ⟨rfl, hb3⟩; replace hb1 := hb1.trans (hb3.mono hb1.size))) | fail)
      go_ret
      exact ⟨Jv.ret_bool (by rw [HX.out]; unfold num3; symm; simp [hp', hr']), hb1⟩
set_option maxHeartbeats 4000000 in
theorem Tryz.num_ne43 (s a r : ByteArray) (_hs : s.size ≤ 5000) (w : World) (hae : a.toList.isEmpty = false) (hD0 : ∀ w, Calls Tryz.prog 152 #[.string (trim s)] w fun e w' => e = .returned (.tuple #[.string a, .string r]) ∧ Below w.heap.size w w') (hrs : r.size ≤ 5000) (h0 : 0 < a.size) (x0 : UInt8) (hg : a[0]'h0 = x0) (hc : (a.size : Int) ≤ 1 ∨ ((1 < (a.size : Int)) ∧ ((x0.toNat : Int) == 48) = false)) (n46 : pre r 46 = false) (e101 : pre r 101 = true) (s43 : pre (r.extract 1 r.size) 43 = true) (HM : Hid (isNumber s = num2 nought r)) :
    Calls Tryz.prog 121 #[.string s] w fun e w' => e = .returned (.bool (isNumber s)) ∧ Below w.heap.size w w' := by
  have hTP : ∀ w, Calls Tryz.prog 153 #[.string s, .string ⟨#[45]⟩] w fun e w' => e = .returned (.string (trim s)) ∧ w' = w := fun w => Tryz.strings_TrimPrefix s ⟨#[45]⟩ w
  have hHP : ∀ x c w, Calls Tryz.prog 139 #[.string x, .string ⟨#[c]⟩] w fun e w' => e = .returned (.bool (pre x c)) ∧ w' = w := fun x c w => Tryz.strings_HasPrefix x ⟨#[c]⟩ w
  have hz1 := Jv.pre_size e101
  have ht1 : (r.extract 1 r.size).size ≤ r.size := by rw [ByteArray.size_extract]; omega
  have hz2 := Jv.pre_size s43
  have ht2 : ((r.extract 1 r.size).extract 1 (r.extract 1 r.size).size).size ≤ (r.extract 1 r.size).size := by rw [ByteArray.size_extract]; omega
  have hD2 := Tryz.digits_any ((r.extract 1 r.size).extract 1 (r.extract 1 r.size).size) (by omega)
  have HX : Hid (isNumber s = num3 nought (dg1 ((r.extract 1 r.size).extract 1 (r.extract 1 r.size).size)) (dg2 ((r.extract 1 r.size).extract 1 (r.extract 1 r.size).size))) := HM.out.trans (by unfold num2; rw [if_pos (Or.inl e101)]; exact if_pos (Or.inl s43))
  generalize dg1 ((r.extract 1 r.size).extract 1 (r.extract 1 r.size).size) = power at *
  generalize dg2 ((r.extract 1 r.size).extract 1 (r.extract 1 r.size).size) = rest at *
  have e0sz : (r.extract 1 r.size).size = r.size - 1 := by rw [ByteArray.size_extract]; omega
  rw [e0sz] at hD2 hz2
  have hz3 : (2 : Int) ≤ r.size := by omega
  clear HM ht1 ht2 hz2 e0sz
  rcases hc with hc | ⟨hc, hc2⟩
  · skip
    have hp' : ¬ nought = emp := by decide
    by_cases hq : power.toList.isEmpty = true
    · have Hq' : Hid (power = emp) := (Jv.emp_iff power).2 hq
      go_enter Tryz.func121, Tryz.ntmps121
      go_wp2_with (first | (go_at_call 153; refine (hTP _).mono ?_; rintro e9 w9 ⟨rfl, rfl⟩) | (go_at_call 139; refine (hHP _ _ _).mono ?_; rintro e9 w9 ⟨rfl, rfl⟩) | (go_at_call 152; first | (refine (hD0 _).mono ?_; clear hD0; rintro e9 w1 ⟨rfl, hb1⟩) | (refine (hD1 _).mono ?_; clear hD1; rintro e9 w2 ⟨rfl, hb2⟩; replace hb1 := hb1.trans (hb2.mono hb1.size)) | (refine (hD2 _).mono ?_; clear hD2; rintro e9 w3 ⟨rfl, hb3⟩; replace hb1 := hb1.trans (hb3.mono hb1.size))) | fail)
      go_ret
      exact ⟨Jv.ret_bool (by rw [HX.out]; unfold num3; symm; simp [hp', Hq'.out]), hb1⟩
    · have hq' : ¬ power = emp := fun h => hq ((Jv.emp_iff power).1 h)
      have hq1 : power.toList.isEmpty = false := by simpa using hq
      clear hq
      by_cases hr : rest.toList.isEmpty = true
      · have Hr' : Hid (rest = emp) := (Jv.emp_iff rest).2 hr
        go_enter Tryz.func121, Tryz.ntmps121
        go_wp2_with (first | (go_at_call 153; refine (hTP _).mono ?_; rintro e9 w9 ⟨rfl, rfl⟩) | (go_at_call 139; refine (hHP _ _ _).mono ?_; rintro e9 w9 ⟨rfl, rfl⟩) | (go_at_call 152; first | (refine (hD0 _).mono ?_; clear hD0; rintro e9 w1 ⟨rfl, hb1⟩) | (refine (hD1 _).mono ?_; clear hD1; rintro e9 w2 ⟨rfl, hb2⟩; replace hb1 := hb1.trans (hb2.mono hb1.size)) | (refine (hD2 _).mono ?_; clear hD2; rintro e9 w3 ⟨rfl, hb3⟩; replace hb1 := hb1.trans (hb3.mono hb1.size))) | fail)
        go_ret
        exact ⟨Jv.ret_bool (by rw [HX.out]; unfold num3; symm; simp [hp', hq', Hr'.out]), hb1⟩
      · have hr' : ¬ rest = emp := fun h => hr ((Jv.emp_iff rest).1 h)
        have hr1 : rest.toList.isEmpty = false := by simpa using hr
        clear hr
        go_enter Tryz.func121, Tryz.ntmps121
        go_wp2_with (first | (go_at_call 153; refine (hTP _).mono ?_; rintro e9 w9 ⟨rfl, rfl⟩) | (go_at_call 139; refine (hHP _ _ _).mono ?_; rintro e9 w9 ⟨rfl, rfl⟩) | (go_at_call 152; first | (refine (hD0 _).mono ?_; clear hD0; rintro e9 w1 ⟨rfl, hb1⟩) | (refine (hD1 _).mono ?_; clear hD1; rintro e9 w2 ⟨rfl, hb2⟩; replace hb1 := hb1.trans (hb2.mono hb1.size)) | (refine (hD2 _).mono ?_; clear hD2; rintro e9 w3 ⟨rfl, hb3⟩; replace hb1 := hb1.trans (hb3.mono hb1.size))) | fail)
        go_ret
        exact ⟨Jv.ret_bool (by rw [HX.out]; unfold num3; symm; simp [hp', hq', hr']), hb1⟩
  · skip
    have hp' : ¬ nought = emp := by decide
    by_cases hq : power.toList.isEmpty = true
    · have Hq' : Hid (power = emp) := (Jv.emp_iff power).2 hq
      go_enter Tryz.func121, Tryz.ntmps121
      go_wp2_with (first | (go_at_call 153; refine (hTP _).mono ?_; rintro e9 w9 ⟨rfl, rfl⟩) | (go_at_call 139; refine (hHP _ _ _).mono ?_; rintro e9 w9 ⟨rfl, rfl⟩) | (go_at_call 152; first | (refine (hD0 _).mono ?_; clear hD0; rintro e9 w1 ⟨rfl, hb1⟩) | (refine (hD1 _).mono ?_; clear hD1; rintro e9 w2 ⟨rfl, hb2⟩; replace hb1 := hb1.trans (hb2.mono hb1.size)) | (refine (hD2 _).mono ?_; clear hD2; rintro e9 w3 ⟨rfl, hb3⟩; replace hb1 := hb1.trans (hb3.mono hb1.size))) | fail)
      go_ret
      exact ⟨Jv.ret_bool (by rw [HX.out]; unfold num3; symm; simp [hp', Hq'.out]), hb1⟩
    · have hq' : ¬ power = emp := fun h => hq ((Jv.emp_iff power).1 h)
      have hq1 : power.toList.isEmpty = false := by simpa using hq
      clear hq
      by_cases hr : rest.toList.isEmpty = true
      · have Hr' : Hid (rest = emp) := (Jv.emp_iff rest).2 hr
        go_enter Tryz.func121, Tryz.ntmps121
        go_wp2_with (first | (go_at_call 153; refine (hTP _).mono ?_; rintro e9 w9 ⟨rfl, rfl⟩) | (go_at_call 139; refine (hHP _ _ _).mono ?_; rintro e9 w9 ⟨rfl, rfl⟩) | (go_at_call 152; first | (refine (hD0 _).mono ?_; clear hD0; rintro e9 w1 ⟨rfl, hb1⟩) | (refine (hD1 _).mono ?_; clear hD1; rintro e9 w2 ⟨rfl, hb2⟩; replace hb1 := hb1.trans (hb2.mono hb1.size)) | (refine (hD2 _).mono ?_; clear hD2; rintro e9 w3 ⟨rfl, hb3⟩; replace hb1 := hb1.trans (hb3.mono hb1.size))) | fail)
        go_ret
        exact ⟨Jv.ret_bool (by rw [HX.out]; unfold num3; symm; simp [hp', hq', Hr'.out]), hb1⟩
      · have hr' : ¬ rest = emp := fun h => hr ((Jv.emp_iff rest).1 h)
        have hr1 : rest.toList.isEmpty = false := by simpa using hr
        clear hr
        go_enter Tryz.func121, Tryz.ntmps121
        go_wp2_with (first | (go_at_call 153; refine (hTP _).mono ?_; rintro e9 w9 ⟨rfl, rfl⟩) | (go_at_call 139; refine (hHP _ _ _).mono ?_; rintro e9 w9 ⟨rfl, rfl⟩) | (go_at_call 152; first | (refine (hD0 _).mono ?_; clear hD0; rintro e9 w1 ⟨rfl, hb1⟩) | (refine (hD1 _).mono ?_; clear hD1; rintro e9 w2 ⟨rfl, hb2⟩; replace hb1 := hb1.trans (hb2.mono hb1.size)) | (refine (hD2 _).mono ?_; clear hD2; rintro e9 w3 ⟨rfl, hb3⟩; replace hb1 := hb1.trans (hb3.mono hb1.size))) | fail)
        go_ret
        exact ⟨Jv.ret_bool (by rw [HX.out]; unfold num3; symm; simp [hp', hq', hr']), hb1⟩
set_option maxHeartbeats 4000000 in
theorem Tryz.num_ne45 (s a r : ByteArray) (_hs : s.size ≤ 5000) (w : World) (hae : a.toList.isEmpty = false) (hD0 : ∀ w, Calls Tryz.prog 152 #[.string (trim s)] w fun e w' => e = .returned (.tuple #[.string a, .string r]) ∧ Below w.heap.size w w') (hrs : r.size ≤ 5000) (h0 : 0 < a.size) (x0 : UInt8) (hg : a[0]'h0 = x0) (hc : (a.size : Int) ≤ 1 ∨ ((1 < (a.size : Int)) ∧ ((x0.toNat : Int) == 48) = false)) (n46 : pre r 46 = false) (e101 : pre r 101 = true) (n43 : pre (r.extract 1 r.size) 43 = false) (s45 : pre (r.extract 1 r.size) 45 = true) (HM : Hid (isNumber s = num2 nought r)) :
    Calls Tryz.prog 121 #[.string s] w fun e w' => e = .returned (.bool (isNumber s)) ∧ Below w.heap.size w w' := by
  have hTP : ∀ w, Calls Tryz.prog 153 #[.string s, .string ⟨#[45]⟩] w fun e w' => e = .returned (.string (trim s)) ∧ w' = w := fun w => Tryz.strings_TrimPrefix s ⟨#[45]⟩ w
  have hHP : ∀ x c w, Calls Tryz.prog 139 #[.string x, .string ⟨#[c]⟩] w fun e w' => e = .returned (.bool (pre x c)) ∧ w' = w := fun x c w => Tryz.strings_HasPrefix x ⟨#[c]⟩ w
  have hz1 := Jv.pre_size e101
  have ht1 : (r.extract 1 r.size).size ≤ r.size := by rw [ByteArray.size_extract]; omega
  have hz2 := Jv.pre_size s45
  have ht2 : ((r.extract 1 r.size).extract 1 (r.extract 1 r.size).size).size ≤ (r.extract 1 r.size).size := by rw [ByteArray.size_extract]; omega
  have hD2 := Tryz.digits_any ((r.extract 1 r.size).extract 1 (r.extract 1 r.size).size) (by omega)
  have HX : Hid (isNumber s = num3 nought (dg1 ((r.extract 1 r.size).extract 1 (r.extract 1 r.size).size)) (dg2 ((r.extract 1 r.size).extract 1 (r.extract 1 r.size).size))) := HM.out.trans (by unfold num2; rw [if_pos (Or.inl e101)]; exact if_pos (Or.inr s45))
  generalize dg1 ((r.extract 1 r.size).extract 1 (r.extract 1 r.size).size) = power at *
  generalize dg2 ((r.extract 1 r.size).extract 1 (r.extract 1 r.size).size) = rest at *
  have e0sz : (r.extract 1 r.size).size = r.size - 1 := by rw [ByteArray.size_extract]; omega
  rw [e0sz] at hD2 hz2
  have hz3 : (2 : Int) ≤ r.size := by omega
  clear HM ht1 ht2 hz2 e0sz
  rcases hc with hc | ⟨hc, hc2⟩
  · skip
    have hp' : ¬ nought = emp := by decide
    by_cases hq : power.toList.isEmpty = true
    · have Hq' : Hid (power = emp) := (Jv.emp_iff power).2 hq
      go_enter Tryz.func121, Tryz.ntmps121
      go_wp2_with (first | (go_at_call 153; refine (hTP _).mono ?_; rintro e9 w9 ⟨rfl, rfl⟩) | (go_at_call 139; refine (hHP _ _ _).mono ?_; rintro e9 w9 ⟨rfl, rfl⟩) | (go_at_call 152; first | (refine (hD0 _).mono ?_; clear hD0; rintro e9 w1 ⟨rfl, hb1⟩) | (refine (hD1 _).mono ?_; clear hD1; rintro e9 w2 ⟨rfl, hb2⟩; replace hb1 := hb1.trans (hb2.mono hb1.size)) | (refine (hD2 _).mono ?_; clear hD2; rintro e9 w3 ⟨rfl, hb3⟩; replace hb1 := hb1.trans (hb3.mono hb1.size))) | fail)
      go_ret
      exact ⟨Jv.ret_bool (by rw [HX.out]; unfold num3; symm; simp [hp', Hq'.out]), hb1⟩
    · have hq' : ¬ power = emp := fun h => hq ((Jv.emp_iff power).1 h)
      have hq1 : power.toList.isEmpty = false := by simpa using hq
      clear hq
      by_cases hr : rest.toList.isEmpty = true
      · have Hr' : Hid (rest = emp) := (Jv.emp_iff rest).2 hr
        go_enter Tryz.func121, Tryz.ntmps121
        go_wp2_with (first | (go_at_call 153; refine (hTP _).mono ?_; rintro e9 w9 ⟨rfl, rfl⟩) | (go_at_call 139; refine (hHP _ _ _).mono ?_; rintro e9 w9 ⟨rfl, rfl⟩) | (go_at_call 152; first | (refine (hD0 _).mono ?_; clear hD0; rintro e9 w1 ⟨rfl, hb1⟩) | (refine (hD1 _).mono ?_; clear hD1; rintro e9 w2 ⟨rfl, hb2⟩; replace hb1 := hb1.trans (hb2.mono hb1.size)) | (refine (hD2 _).mono ?_; clear hD2; rintro e9 w3 ⟨rfl, hb3⟩; replace hb1 := hb1.trans (hb3.mono hb1.size))) | fail)
        go_ret
        exact ⟨Jv.ret_bool (by rw [HX.out]; unfold num3; symm; simp [hp', hq', Hr'.out]), hb1⟩
      · have hr' : ¬ rest = emp := fun h => hr ((Jv.emp_iff rest).1 h)
        have hr1 : rest.toList.isEmpty = false := by simpa using hr
        clear hr
        go_enter Tryz.func121, Tryz.ntmps121
        go_wp2_with (first | (go_at_call 153; refine (hTP _).mono ?_; rintro e9 w9 ⟨rfl, rfl⟩) | (go_at_call 139; refine (hHP _ _ _).mono ?_; rintro e9 w9 ⟨rfl, rfl⟩) | (go_at_call 152; first | (refine (hD0 _).mono ?_; clear hD0; rintro e9 w1 ⟨rfl, hb1⟩) | (refine (hD1 _).mono ?_; clear hD1; rintro e9 w2 ⟨rfl, hb2⟩; replace hb1 := hb1.trans (hb2.mono hb1.size)) | (refine (hD2 _).mono ?_; clear hD2; rintro e9 w3 ⟨rfl, hb3⟩; replace hb1 := hb1.trans (hb3.mono hb1.size))) | fail)
        go_ret
        exact ⟨Jv.ret_bool (by rw [HX.out]; unfold num3; symm; simp [hp', hq', hr']), hb1⟩
  · skip
    have hp' : ¬ nought = emp := by decide
    by_cases hq : power.toList.isEmpty = true
    · have Hq' : Hid (power = emp) := (Jv.emp_iff power).2 hq
      go_enter Tryz.func121, Tryz.ntmps121
      go_wp2_with (first | (go_at_call 153; refine (hTP _).mono ?_; rintro e9 w9 ⟨rfl, rfl⟩) | (go_at_call 139; refine (hHP _ _ _).mono ?_; rintro e9 w9 ⟨rfl, rfl⟩) | (go_at_call 152; first | (refine (hD0 _).mono ?_; clear hD0; rintro e9 w1 ⟨rfl, hb1⟩) | (refine (hD1 _).mono ?_; clear hD1; rintro e9 w2 ⟨rfl, hb2⟩; replace hb1 := hb1.trans (hb2.mono hb1.size)) | (refine (hD2 _).mono ?_; clear hD2; rintro e9 w3 ⟨rfl, hb3⟩; replace hb1 := hb1.trans (hb3.mono hb1.size))) | fail)
      go_ret
      exact ⟨Jv.ret_bool (by rw [HX.out]; unfold num3; symm; simp [hp', Hq'.out]), hb1⟩
    · have hq' : ¬ power = emp := fun h => hq ((Jv.emp_iff power).1 h)
      have hq1 : power.toList.isEmpty = false := by simpa using hq
      clear hq
      by_cases hr : rest.toList.isEmpty = true
      · have Hr' : Hid (rest = emp) := (Jv.emp_iff rest).2 hr
        go_enter Tryz.func121, Tryz.ntmps121
        go_wp2_with (first | (go_at_call 153; refine (hTP _).mono ?_; rintro e9 w9 ⟨rfl, rfl⟩) | (go_at_call 139; refine (hHP _ _ _).mono ?_; rintro e9 w9 ⟨rfl, rfl⟩) | (go_at_call 152; first | (refine (hD0 _).mono ?_; clear hD0; rintro e9 w1 ⟨rfl, hb1⟩) | (refine (hD1 _).mono ?_; clear hD1; rintro e9 w2 ⟨rfl, hb2⟩; replace hb1 := hb1.trans (hb2.mono hb1.size)) | (refine (hD2 _).mono ?_; clear hD2; rintro e9 w3 ⟨rfl, hb3⟩; replace hb1 := hb1.trans (hb3.mono hb1.size))) | fail)
        go_ret
        exact ⟨Jv.ret_bool (by rw [HX.out]; unfold num3; symm; simp [hp', hq', Hr'.out]), hb1⟩
      · have hr' : ¬ rest = emp := fun h => hr ((Jv.emp_iff rest).1 h)
        have hr1 : rest.toList.isEmpty = false := by simpa using hr
        clear hr
        go_enter Tryz.func121, Tryz.ntmps121
        go_wp2_with (first | (go_at_call 153; refine (hTP _).mono ?_; rintro e9 w9 ⟨rfl, rfl⟩) | (go_at_call 139; refine (hHP _ _ _).mono ?_; rintro e9 w9 ⟨rfl, rfl⟩) | (go_at_call 152; first | (refine (hD0 _).mono ?_; clear hD0; rintro e9 w1 ⟨rfl, hb1⟩) | (refine (hD1 _).mono ?_; clear hD1; rintro e9 w2 ⟨rfl, hb2⟩; replace hb1 := hb1.trans (hb2.mono hb1.size)) | (refine (hD2 _).mono ?_; clear hD2; rintro e9 w3 ⟨rfl, hb3⟩; replace hb1 := hb1.trans (hb3.mono hb1.size))) | fail)
        go_ret
        exact ⟨Jv.ret_bool (by rw [HX.out]; unfold num3; symm; simp [hp', hq', hr']), hb1⟩
set_option maxHeartbeats 4000000 in
theorem Tryz.num_ne (s a r : ByteArray) (_hs : s.size ≤ 5000) (w : World) (hae : a.toList.isEmpty = false) (hD0 : ∀ w, Calls Tryz.prog 152 #[.string (trim s)] w fun e w' => e = .returned (.tuple #[.string a, .string r]) ∧ Below w.heap.size w w') (hrs : r.size ≤ 5000) (h0 : 0 < a.size) (x0 : UInt8) (hg : a[0]'h0 = x0) (hc : (a.size : Int) ≤ 1 ∨ ((1 < (a.size : Int)) ∧ ((x0.toNat : Int) == 48) = false)) (n46 : pre r 46 = false) (e101 : pre r 101 = true) (n43 : pre (r.extract 1 r.size) 43 = false) (n45 : pre (r.extract 1 r.size) 45 = false) (HM : Hid (isNumber s = num2 nought r)) :
    Calls Tryz.prog 121 #[.string s] w fun e w' => e = .returned (.bool (isNumber s)) ∧ Below w.heap.size w w' := by
  have hTP : ∀ w, Calls Tryz.prog 153 #[.string s, .string ⟨#[45]⟩] w fun e w' => e = .returned (.string (trim s)) ∧ w' = w := fun w => Tryz.strings_TrimPrefix s ⟨#[45]⟩ w
  have hHP : ∀ x c w, Calls Tryz.prog 139 #[.string x, .string ⟨#[c]⟩] w fun e w' => e = .returned (.bool (pre x c)) ∧ w' = w := fun x c w => Tryz.strings_HasPrefix x ⟨#[c]⟩ w
  have hz1 := Jv.pre_size e101
  have ht1 : (r.extract 1 r.size).size ≤ r.size := by rw [ByteArray.size_extract]; omega
  have hD2 := Tryz.digits_any (r.extract 1 r.size) (by omega)
  have HX : Hid (isNumber s = num3 nought (dg1 (r.extract 1 r.size)) (dg2 (r.extract 1 r.size))) := HM.out.trans (by unfold num2; rw [if_pos (Or.inl e101)]; exact if_neg (by unfold tail1; rw [n43, n45]; simp))
  generalize dg1 (r.extract 1 r.size) = power at *
  generalize dg2 (r.extract 1 r.size) = rest at *
  clear HM ht1
  rcases hc with hc | ⟨hc, hc2⟩
  · skip
    have hp' : ¬ nought = emp := by decide
    by_cases hq : power.toList.isEmpty = true
    · have Hq' : Hid (power = emp) := (Jv.emp_iff power).2 hq
      go_enter Tryz.func121, Tryz.ntmps121
      go_wp2_with (first | (go_at_call 153; refine (hTP _).mono ?_; rintro e9 w9 ⟨rfl, rfl⟩) | (go_at_call 139; refine (hHP _ _ _).mono ?_; rintro e9 w9 ⟨rfl, rfl⟩) | (go_at_call 152; first | (refine (hD0 _).mono ?_; clear hD0; rintro e9 w1 ⟨rfl, hb1⟩) | (refine (hD1 _).mono ?_; clear hD1; rintro e9 w2 ⟨rfl, hb2⟩; replace hb1 := hb1.trans (hb2.mono hb1.size)) | (refine (hD2 _).mono ?_; clear hD2; rintro e9 w3 ⟨rfl, hb3⟩; replace hb1 := hb1.trans (hb3.mono hb1.size))) | fail)
      go_ret
      exact ⟨Jv.ret_bool (by rw [HX.out]; unfold num3; symm; simp [hp', Hq'.out]), hb1⟩
    · have hq' : ¬ power = emp := fun h => hq ((Jv.emp_iff power).1 h)
      have hq1 : power.toList.isEmpty = false := by simpa using hq
      clear hq
      by_cases hr : rest.toList.isEmpty = true
      · have Hr' : Hid (rest = emp) := (Jv.emp_iff rest).2 hr
        go_enter Tryz.func121, Tryz.ntmps121
        go_wp2_with (first | (go_at_call 153; refine (hTP _).mono ?_; rintro e9 w9 ⟨rfl, rfl⟩) | (go_at_call 139; refine (hHP _ _ _).mono ?_; rintro e9 w9 ⟨rfl, rfl⟩) | (go_at_call 152; first | (refine (hD0 _).mono ?_; clear hD0; rintro e9 w1 ⟨rfl, hb1⟩) | (refine (hD1 _).mono ?_; clear hD1; rintro e9 w2 ⟨rfl, hb2⟩; replace hb1 := hb1.trans (hb2.mono hb1.size)) | (refine (hD2 _).mono ?_; clear hD2; rintro e9 w3 ⟨rfl, hb3⟩; replace hb1 := hb1.trans (hb3.mono hb1.size))) | fail)
        go_ret
        exact ⟨Jv.ret_bool (by rw [HX.out]; unfold num3; symm; simp [hp', hq', Hr'.out]), hb1⟩
      · have hr' : ¬ rest = emp := fun h => hr ((Jv.emp_iff rest).1 h)
        have hr1 : rest.toList.isEmpty = false := by simpa using hr
        clear hr
        go_enter Tryz.func121, Tryz.ntmps121
        go_wp2_with (first | (go_at_call 153; refine (hTP _).mono ?_; rintro e9 w9 ⟨rfl, rfl⟩) | (go_at_call 139; refine (hHP _ _ _).mono ?_; rintro e9 w9 ⟨rfl, rfl⟩) | (go_at_call 152; first | (refine (hD0 _).mono ?_; clear hD0; rintro e9 w1 ⟨rfl, hb1⟩) | (refine (hD1 _).mono ?_; clear hD1; rintro e9 w2 ⟨rfl, hb2⟩; replace hb1 := hb1.trans (hb2.mono hb1.size)) | (refine (hD2 _).mono ?_; clear hD2; rintro e9 w3 ⟨rfl, hb3⟩; replace hb1 := hb1.trans (hb3.mono hb1.size))) | fail)
        go_ret
        exact ⟨Jv.ret_bool (by rw [HX.out]; unfold num3; symm; simp [hp', hq', hr']), hb1⟩
  · skip
    have hp' : ¬ nought = emp := by decide
    by_cases hq : power.toList.isEmpty = true
    · have Hq' : Hid (power = emp) := (Jv.emp_iff power).2 hq
      go_enter Tryz.func121, Tryz.ntmps121
      go_wp2_with (first | (go_at_call 153; refine (hTP _).mono ?_; rintro e9 w9 ⟨rfl, rfl⟩) | (go_at_call 139; refine (hHP _ _ _).mono ?_; rintro e9 w9 ⟨rfl, rfl⟩) | (go_at_call 152; first | (refine (hD0 _).mono ?_; clear hD0; rintro e9 w1 ⟨rfl, hb1⟩) | (refine (hD1 _).mono ?_; clear hD1; rintro e9 w2 ⟨rfl, hb2⟩; replace hb1 := hb1.trans (hb2.mono hb1.size)) | (refine (hD2 _).mono ?_; clear hD2; rintro e9 w3 ⟨rfl, hb3⟩; replace hb1 := hb1.trans (hb3.mono hb1.size))) | fail)
      go_ret
      exact ⟨Jv.ret_bool (by rw [HX.out]; unfold num3; symm; simp [hp', Hq'.out]), hb1⟩
    · have hq' : ¬ power = emp := fun h => hq ((Jv.emp_iff power).1 h)
      have hq1 : power.toList.isEmpty = false := by simpa using hq
      clear hq
      by_cases hr : rest.toList.isEmpty = true
      · have Hr' : Hid (rest = emp) := (Jv.emp_iff rest).2 hr
        go_enter Tryz.func121, Tryz.ntmps121
        go_wp2_with (first | (go_at_call 153; refine (hTP _).mono ?_; rintro e9 w9 ⟨rfl, rfl⟩) | (go_at_call 139; refine (hHP _ _ _).mono ?_; rintro e9 w9 ⟨rfl, rfl⟩) | (go_at_call 152; first | (refine (hD0 _).mono ?_; clear hD0; rintro e9 w1 ⟨rfl, hb1⟩) | (refine (hD1 _).mono ?_; clear hD1; rintro e9 w2 ⟨rfl, hb2⟩; replace hb1 := hb1.trans (hb2.mono hb1.size)) | (refine (hD2 _).mono ?_; clear hD2; rintro e9 w3 ⟨rfl, hb3⟩; replace hb1 := hb1.trans (hb3.mono hb1.size))) | fail)
        go_ret
        exact ⟨Jv.ret_bool (by rw [HX.out]; unfold num3; symm; simp [hp', hq', Hr'.out]), hb1⟩
      · have hr' : ¬ rest = emp := fun h => hr ((Jv.emp_iff rest).1 h)
        have hr1 : rest.toList.isEmpty = false := by simpa using hr
        clear hr
        go_enter Tryz.func121, Tryz.ntmps121
        go_wp2_with (first | (go_at_call 153; refine (hTP _).mono ?_; rintro e9 w9 ⟨rfl, rfl⟩) | (go_at_call 139; refine (hHP _ _ _).mono ?_; rintro e9 w9 ⟨rfl, rfl⟩) | (go_at_call 152; first | (refine (hD0 _).mono ?_; clear hD0; rintro e9 w1 ⟨rfl, hb1⟩) | (refine (hD1 _).mono ?_; clear hD1; rintro e9 w2 ⟨rfl, hb2⟩; replace hb1 := hb1.trans (hb2.mono hb1.size)) | (refine (hD2 _).mono ?_; clear hD2; rintro e9 w3 ⟨rfl, hb3⟩; replace hb1 := hb1.trans (hb3.mono hb1.size))) | fail)
        go_ret
        exact ⟨Jv.ret_bool (by rw [HX.out]; unfold num3; symm; simp [hp', hq', hr']), hb1⟩
set_option maxHeartbeats 4000000 in
theorem Tryz.num_nE43 (s a r : ByteArray) (_hs : s.size ≤ 5000) (w : World) (hae : a.toList.isEmpty = false) (hD0 : ∀ w, Calls Tryz.prog 152 #[.string (trim s)] w fun e w' => e = .returned (.tuple #[.string a, .string r]) ∧ Below w.heap.size w w') (hrs : r.size ≤ 5000) (h0 : 0 < a.size) (x0 : UInt8) (hg : a[0]'h0 = x0) (hc : (a.size : Int) ≤ 1 ∨ ((1 < (a.size : Int)) ∧ ((x0.toNat : Int) == 48) = false)) (n46 : pre r 46 = false) (m101 : pre r 101 = false) (e69 : pre r 69 = true) (s43 : pre (r.extract 1 r.size) 43 = true) (HM : Hid (isNumber s = num2 nought r)) :
    Calls Tryz.prog 121 #[.string s] w fun e w' => e = .returned (.bool (isNumber s)) ∧ Below w.heap.size w w' := by
  have hTP : ∀ w, Calls Tryz.prog 153 #[.string s, .string ⟨#[45]⟩] w fun e w' => e = .returned (.string (trim s)) ∧ w' = w := fun w => Tryz.strings_TrimPrefix s ⟨#[45]⟩ w
  have hHP : ∀ x c w, Calls Tryz.prog 139 #[.string x, .string ⟨#[c]⟩] w fun e w' => e = .returned (.bool (pre x c)) ∧ w' = w := fun x c w => Tryz.strings_HasPrefix x ⟨#[c]⟩ w
  have hz1 := Jv.pre_size e69
  have ht1 : (r.extract 1 r.size).size ≤ r.size := by rw [ByteArray.size_extract]; omega
  have hz2 := Jv.pre_size s43
  have ht2 : ((r.extract 1 r.size).extract 1 (r.extract 1 r.size).size).size ≤ (r.extract 1 r.size).size := by rw [ByteArray.size_extract]; omega
  have hD2 := Tryz.digits_any ((r.extract 1 r.size).extract 1 (r.extract 1 r.size).size) (by omega)
  have HX : Hid (isNumber s = num3 nought (dg1 ((r.extract 1 r.size).extract 1 (r.extract 1 r.size).size)) (dg2 ((r.extract 1 r.size).extract 1 (r.extract 1 r.size).size))) := HM.out.trans (by unfold num2; rw [if_pos (Or.inr e69)]; exact if_pos (Or.inl s43))
  generalize dg1 ((r.extract 1 r.size).extract 1 (r.extract 1 r.size).size) = power at *
  generalize dg2 ((r.extract 1 r.size).extract 1 (r.extract 1 r.size).size) = rest at *
  have e0sz : (r.extract 1 r.size).size = r.size - 1 := by rw [ByteArray.size_extract]; omega
  rw [e0sz] at hD2 hz2
  have hz3 : (2 : Int) ≤ r.size := by omega
  clear HM ht1 ht2 hz2 e0sz
  rcases hc with hc | ⟨hc, hc2⟩
  · skip
    have hp' : ¬ nought = emp := by decide
    by_cases hq : power.toList.isEmpty = true
    · have Hq' : Hid (power = emp) := (Jv.emp_iff power).2 hq
      go_enter Tryz.func121, Tryz.ntmps121
      go_wp2_with (first | (go_at_call 153; refine (hTP _).mono ?_; rintro e9 w9 ⟨rfl, rfl⟩) | (go_at_call 139; refine (hHP _ _ _).mono ?_; rintro e9 w9 ⟨rfl, rfl⟩) | (go_at_call 152; first | (refine (hD0 _).mono ?_; clear hD0; rintro e9 w1 ⟨rfl, hb1⟩) | (refine (hD1 _).mono ?_; clear hD1; rintro e9 w2 ⟨rfl, hb2⟩; replace hb1 := hb1.trans (hb2.mono hb1.size)) | (refine (hD2 _).mono ?_; clear hD2; rintro e9 w3 ⟨rfl, hb3⟩; replace hb1 := hb1.trans (hb3.mono hb1.size))) | fail)
      go_ret
      exact ⟨Jv.ret_bool (by rw [HX.out]; unfold num3; symm; simp [hp', Hq'.out]), hb1⟩
    · have hq' : ¬ power = emp := fun h => hq ((Jv.emp_iff power).1 h)
      have hq1 : power.toList.isEmpty = false := by simpa using hq
      clear hq
      by_cases hr : rest.toList.isEmpty = true
      · have Hr' : Hid (rest = emp) := (Jv.emp_iff rest).2 hr
        go_enter Tryz.func121, Tryz.ntmps121
        go_wp2_with (first | (go_at_call 153; refine (hTP _).mono ?_; rintro e9 w9 ⟨rfl, rfl⟩) | (go_at_call 139; refine (hHP _ _ _).mono ?_; rintro e9 w9 ⟨rfl, rfl⟩) | (go_at_call 152; first | (refine (hD0 _).mono ?_; clear hD0; rintro e9 w1 ⟨rfl, hb1⟩) | (refine (hD1 _).mono ?_; clear hD1; rintro e9 w2 ⟨rfl, hb2⟩; replace hb1 := hb1.trans (hb2.mono hb1.size)) | (refine (hD2 _).mono ?_; clear hD2; rintro e9 w3 ⟨rfl, hb3⟩; replace hb1 := hb1.trans (hb3.mono hb1.size))) | fail)
        go_ret
        exact ⟨Jv.ret_bool (by rw [HX.out]; unfold num3; symm; simp [hp', hq', Hr'.out]), hb1⟩
      · have hr' : ¬ rest = emp := fun h => hr ((Jv.emp_iff rest).1 h)
        have hr1 : rest.toList.isEmpty = false := by simpa using hr
        clear hr
        go_enter Tryz.func121, Tryz.ntmps121
        go_wp2_with (first | (go_at_call 153; refine (hTP _).mono ?_; rintro e9 w9 ⟨rfl, rfl⟩) | (go_at_call 139; refine (hHP _ _ _).mono ?_; rintro e9 w9 ⟨rfl, rfl⟩) | (go_at_call 152; first | (refine (hD0 _).mono ?_; clear hD0; rintro e9 w1 ⟨rfl, hb1⟩) | (refine (hD1 _).mono ?_; clear hD1; rintro e9 w2 ⟨rfl, hb2⟩; replace hb1 := hb1.trans (hb2.mono hb1.size)) | (refine (hD2 _).mono ?_; clear hD2; rintro e9 w3 ⟨rfl, hb3⟩; replace hb1 := hb1.trans (hb3.mono hb1.size))) | fail)
        go_ret
        exact ⟨Jv.ret_bool (by rw [HX.out]; unfold num3; symm; simp [hp', hq', hr']), hb1⟩
  · skip
    have hp' : ¬ nought = emp := by decide
    by_cases hq : power.toList.isEmpty = true
    · have Hq' : Hid (power = emp) := (Jv.emp_iff power).2 hq
      go_enter Tryz.func121, Tryz.ntmps121
      go_wp2_with (first | (go_at_call 153; refine (hTP _).mono ?_; rintro e9 w9 ⟨rfl, rfl⟩) | (go_at_call 139; refine (hHP _ _ _).mono ?_; rintro e9 w9 ⟨rfl, rfl⟩) | (go_at_call 152; first | (refine (hD0 _).mono ?_; clear hD0; rintro e9 w1 ⟨rfl, hb1⟩) | (refine (hD1 _).mono ?_; clear hD1; rintro e9 w2 ⟨rfl, hb2⟩; replace hb1 := hb1.trans (hb2.mono hb1.size)) | (refine (hD2 _).mono ?_; clear hD2; rintro e9 w3 ⟨rfl, hb3⟩; replace hb1 := hb1.trans (hb3.mono hb1.size))) | fail)
      go_ret
      exact ⟨Jv.ret_bool (by rw [HX.out]; unfold num3; symm; simp [hp', Hq'.out]), hb1⟩
    · have hq' : ¬ power = emp := fun h => hq ((Jv.emp_iff power).1 h)
      have hq1 : power.toList.isEmpty = false := by simpa using hq
      clear hq
      by_cases hr : rest.toList.isEmpty = true
      · have Hr' : Hid (rest = emp) := (Jv.emp_iff rest).2 hr
        go_enter Tryz.func121, Tryz.ntmps121
        go_wp2_with (first | (go_at_call 153; refine (hTP _).mono ?_; rintro e9 w9 ⟨rfl, rfl⟩) | (go_at_call 139; refine (hHP _ _ _).mono ?_; rintro e9 w9 ⟨rfl, rfl⟩) | (go_at_call 152; first | (refine (hD0 _).mono ?_; clear hD0; rintro e9 w1 ⟨rfl, hb1⟩) | (refine (hD1 _).mono ?_; clear hD1; rintro e9 w2 ⟨rfl, hb2⟩; replace hb1 := hb1.trans (hb2.mono hb1.size)) | (refine (hD2 _).mono ?_; clear hD2; rintro e9 w3 ⟨rfl, hb3⟩; replace hb1 := hb1.trans (hb3.mono hb1.size))) | fail)
        go_ret
        exact ⟨Jv.ret_bool (by rw [HX.out]; unfold num3; symm; simp [hp', hq', Hr'.out]), hb1⟩
      · have hr' : ¬ rest = emp := fun h => hr ((Jv.emp_iff rest).1 h)
        have hr1 : rest.toList.isEmpty = false := by simpa using hr
        clear hr
        go_enter Tryz.func121, Tryz.ntmps121
        go_wp2_with (first | (go_at_call 153; refine (hTP _).mono ?_; rintro e9 w9 ⟨rfl, rfl⟩) | (go_at_call 139; refine (hHP _ _ _).mono ?_; rintro e9 w9 ⟨rfl, rfl⟩) | (go_at_call 152; first | (refine (hD0 _).mono ?_; clear hD0; rintro e9 w1 ⟨rfl, hb1⟩) | (refine (hD1 _).mono ?_; clear hD1; rintro e9 w2 ⟨rfl, hb2⟩; replace hb1 := hb1.trans (hb2.mono hb1.size)) | (refine (hD2 _).mono ?_; clear hD2; rintro e9 w3 ⟨rfl, hb3⟩; replace hb1 := hb1.trans (hb3.mono hb1.size))) | fail)
        go_ret
        exact ⟨Jv.ret_bool (by rw [HX.out]; unfold num3; symm; simp [hp', hq', hr']), hb1⟩
set_option maxHeartbeats 4000000 in
theorem Tryz.num_nE45 (s a r : ByteArray) (_hs : s.size ≤ 5000) (w : World) (hae : a.toList.isEmpty = false) (hD0 : ∀ w, Calls Tryz.prog 152 #[.string (trim s)] w fun e w' => e = .returned (.tuple #[.string a, .string r]) ∧ Below w.heap.size w w') (hrs : r.size ≤ 5000) (h0 : 0 < a.size) (x0 : UInt8) (hg : a[0]'h0 = x0) (hc : (a.size : Int) ≤ 1 ∨ ((1 < (a.size : Int)) ∧ ((x0.toNat : Int) == 48) = false)) (n46 : pre r 46 = false) (m101 : pre r 101 = false) (e69 : pre r 69 = true) (n43 : pre (r.extract 1 r.size) 43 = false) (s45 : pre (r.extract 1 r.size) 45 = true) (HM : Hid (isNumber s = num2 nought r)) :
    Calls Tryz.prog 121 #[.string s] w fun e w' => e = .returned (.bool (isNumber s)) ∧ Below w.heap.size w w' := by
  have hTP : ∀ w, Calls Tryz.prog 153 #[.string s, .string ⟨#[45]⟩] w fun e w' => e = .returned (.string (trim s)) ∧ w' = w := fun w => Tryz.strings_TrimPrefix s ⟨#[45]⟩ w
  have hHP : ∀ x c w, Calls Tryz.prog 139 #[.string x, .string ⟨#[c]⟩] w fun e w' => e = .returned (.bool (pre x c)) ∧ w' = w := fun x c w => Tryz.strings_HasPrefix x ⟨#[c]⟩ w
  have hz1 := Jv.pre_size e69
  have ht1 : (r.extract 1 r.size).size ≤ r.size := by rw [ByteArray.size_extract]; omega
  have hz2 := Jv.pre_size s45
  have ht2 : ((r.extract 1 r.size).extract 1 (r.extract 1 r.size).size).size ≤ (r.extract 1 r.size).size := by rw [ByteArray.size_extract]; omega
  have hD2 := Tryz.digits_any ((r.extract 1 r.size).extract 1 (r.extract 1 r.size).size) (by omega)
  have HX : Hid (isNumber s = num3 nought (dg1 ((r.extract 1 r.size).extract 1 (r.extract 1 r.size).size)) (dg2 ((r.extract 1 r.size).extract 1 (r.extract 1 r.size).size))) := HM.out.trans (by unfold num2; rw [if_pos (Or.inr e69)]; exact if_pos (Or.inr s45))
  generalize dg1 ((r.extract 1 r.size).extract 1 (r.extract 1 r.size).size) = power at *
  generalize dg2 ((r.extract 1 r.size).extract 1 (r.extract 1 r.size).size) = rest at *
  have e0sz : (r.extract 1 r.size).size = r.size - 1 := by rw [ByteArray.size_extract]; omega
  rw [e0sz] at hD2 hz2
  have hz3 : (2 : Int) ≤ r.size := by omega
  clear HM ht1 ht2 hz2 e0sz
  rcases hc with hc | ⟨hc, hc2⟩
  · skip
    have hp' : ¬ nought = emp := by decide
    by_cases hq : power.toList.isEmpty = true
    · have Hq' : Hid (power = emp) := (Jv.emp_iff power).2 hq
      go_enter Tryz.func121, Tryz.ntmps121
      go_wp2_with (first | (go_at_call 153; refine (hTP _).mono ?_; rintro e9 w9 ⟨rfl, rfl⟩) | (go_at_call 139; refine (hHP _ _ _).mono ?_; rintro e9 w9 ⟨rfl, rfl⟩) | (go_at_call 152; first | (refine (hD0 _).mono ?_; clear hD0; rintro e9 w1 ⟨rfl, hb1⟩) | (refine (hD1 _).mono ?_; clear hD1; rintro e9 w2 ⟨rfl, hb2⟩; replace hb1 := hb1.trans (hb2.mono hb1.size)) | (refine (hD2 _).mono ?_; clear hD2; rintro e9 w3 ⟨rfl, hb3⟩; replace hb1 := hb1.trans (hb3.mono hb1.size))) | fail)
      go_ret
      exact ⟨Jv.ret_bool (by rw [HX.out]; unfold num3; symm; simp [hp', Hq'.out]), hb1⟩
    · have hq' : ¬ power = emp := fun h => hq ((Jv.emp_iff power).1 h)
      have hq1 : power.toList.isEmpty = false := by simpa using hq
      clear hq
      by_cases hr : rest.toList.isEmpty = true
      · have Hr' : Hid (rest = emp) := (Jv.emp_iff rest).2 hr
        go_enter Tryz.func121, Tryz.ntmps121
        go_wp2_with (first | (go_at_call 153; refine (hTP _).mono ?_; rintro e9 w9 ⟨rfl, rfl⟩) | (go_at_call 139; refine (hHP _ _ _).mono ?_; rintro e9 w9 ⟨rfl, rfl⟩) | (go_at_call 152; first | (refine (hD0 _).mono ?_; clear hD0; rintro e9 w1 ⟨rfl, hb1⟩) | (refine (hD1 _).mono ?_; clear hD1; rintro e9 w2 ⟨rfl, hb2⟩; replace hb1 := hb1.trans (hb2.mono hb1.size)) | (refine (hD2 _).mono ?_; clear hD2; rintro e9 w3 ⟨rfl, hb3⟩; replace hb1 := hb1.trans (hb3.mono hb1.size))) | fail)
        go_ret
        exact ⟨Jv.ret_bool (by rw [HX.out]; unfold num3; symm; simp [hp', hq', Hr'.out]), hb1⟩
      · have hr' : ¬ rest = emp := fun h => hr ((Jv.emp_iff rest).1 h)
        have hr1 : rest.toList.isEmpty = false := by simpa using hr
        clear hr
        go_enter Tryz.func121, Tryz.ntmps121
        go_wp2_with (first | (go_at_call 153; refine (hTP _).mono ?_; rintro e9 w9 ⟨rfl, rfl⟩) | (go_at_call 139; refine (hHP _ _ _).mono ?_; rintro e9 w9 ⟨rfl, rfl⟩) | (go_at_call 152; first | (refine (hD0 _).mono ?_; clear hD0; rintro e9 w1 ⟨rfl, hb1⟩) | (refine (hD1 _).mono ?_; clear hD1; rintro e9 w2 ⟨rfl, hb2⟩; replace hb1 := hb1.trans (hb2.mono hb1.size)) | (refine (hD2 _).mono ?_; clear hD2; rintro e9 w3 ⟨rfl, hb3⟩; replace hb1 := hb1.trans (hb3.mono hb1.size))) | fail)
        go_ret
        exact ⟨Jv.ret_bool (by rw [HX.out]; unfold num3; symm; simp [hp', hq', hr']), hb1⟩
  · skip
    have hp' : ¬ nought = emp := by decide
    by_cases hq : power.toList.isEmpty = true
    · have Hq' : Hid (power = emp) := (Jv.emp_iff power).2 hq
      go_enter Tryz.func121, Tryz.ntmps121
      go_wp2_with (first | (go_at_call 153; refine (hTP _).mono ?_; rintro e9 w9 ⟨rfl, rfl⟩) | (go_at_call 139; refine (hHP _ _ _).mono ?_; rintro e9 w9 ⟨rfl, rfl⟩) | (go_at_call 152; first | (refine (hD0 _).mono ?_; clear hD0; rintro e9 w1 ⟨rfl, hb1⟩) | (refine (hD1 _).mono ?_; clear hD1; rintro e9 w2 ⟨rfl, hb2⟩; replace hb1 := hb1.trans (hb2.mono hb1.size)) | (refine (hD2 _).mono ?_; clear hD2; rintro e9 w3 ⟨rfl, hb3⟩; replace hb1 := hb1.trans (hb3.mono hb1.size))) | fail)
      go_ret
      exact ⟨Jv.ret_bool (by rw [HX.out]; unfold num3; symm; simp [hp', Hq'.out]), hb1⟩
    · have hq' : ¬ power = emp := fun h => hq ((Jv.emp_iff power).1 h)
      have hq1 : power.toList.isEmpty = false := by simpa using hq
      clear hq
      by_cases hr : rest.toList.isEmpty = true
      · have Hr' : Hid (rest = emp) := (Jv.emp_iff rest).2 hr
        go_enter Tryz.func121, Tryz.ntmps121
        go_wp2_with (first | (go_at_call 153; refine (hTP _).mono ?_; rintro e9 w9 ⟨rfl, rfl⟩) | (go_at_call 139; refine (hHP _ _ _).mono ?_; rintro e9 w9 ⟨rfl, rfl⟩) | (go_at_call 152; first | (refine (hD0 _).mono ?_; clear hD0; rintro e9 w1 ⟨rfl, hb1⟩) | (refine (hD1 _).mono ?_; clear hD1; rintro e9 w2 ⟨rfl, hb2⟩; replace hb1 := hb1.trans (hb2.mono hb1.size)) | (refine (hD2 _).mono ?_; clear hD2; rintro e9 w3 ⟨rfl, hb3⟩; replace hb1 := hb1.trans (hb3.mono hb1.size))) | fail)
        go_ret
        exact ⟨Jv.ret_bool (by rw [HX.out]; unfold num3; symm; simp [hp', hq', Hr'.out]), hb1⟩
      · have hr' : ¬ rest = emp := fun h => hr ((Jv.emp_iff rest).1 h)
        have hr1 : rest.toList.isEmpty = false := by simpa using hr
        clear hr
        go_enter Tryz.func121, Tryz.ntmps121
        go_wp2_with (first | (go_at_call 153; refine (hTP _).mono ?_; rintro e9 w9 ⟨rfl, rfl⟩) | (go_at_call 139; refine (hHP _ _ _).mono ?_; rintro e9 w9 ⟨rfl, rfl⟩) | (go_at_call 152; first | (refine (hD0 _).mono ?_; clear hD0; rintro e9 w1 ⟨rfl, hb1⟩) | (refine (hD1 _).mono ?_; clear hD1; rintro e9 w2 ⟨rfl, hb2⟩; replace hb1 := hb1.trans (hb2.mono hb1.size)) | (refine (hD2 _).mono ?_; clear hD2; rintro e9 w3 ⟨rfl, hb3⟩; replace hb1 := hb1.trans (hb3.mono hb1.size))) | fail)
        go_ret
        exact ⟨Jv.ret_bool (by rw [HX.out]; unfold num3; symm; simp [hp', hq', hr']), hb1⟩
set_option maxHeartbeats 4000000 in
theorem Tryz.num_nE (s a r : ByteArray) (_hs : s.size ≤ 5000) (w : World) (hae : a.toList.isEmpty = false) (hD0 : ∀ w, Calls Tryz.prog 152 #[.string (trim s)] w fun e w' => e = .returned (.tuple #[.string a, .string r]) ∧ Below w.heap.size w w') (hrs : r.size ≤ 5000) (h0 : 0 < a.size) (x0 : UInt8) (hg : a[0]'h0 = x0) (hc : (a.size : Int) ≤ 1 ∨ ((1 < (a.size : Int)) ∧ ((x0.toNat : Int) == 48) = false)) (n46 : pre r 46 = false) (m101 : pre r 101 = false) (e69 : pre r 69 = true) (n43 : pre (r.extract 1 r.size) 43 = false) (n45 : pre (r.extract 1 r.size) 45 = false) (HM : Hid (isNumber s = num2 nought r)) :
    Calls Tryz.prog 121 #[.string s] w fun e w' => e = .returned (.bool (isNumber s)) ∧ Below w.heap.size w w' := by
  have hTP : ∀ w, Calls Tryz.prog 153 #[.string s, .string ⟨#[45]⟩] w fun e w' => e = .returned (.string (trim s)) ∧ w' = w := fun w => Tryz.strings_TrimPrefix s ⟨#[45]⟩ w
  have hHP : ∀ x c w, Calls Tryz.prog 139 #[.string x, .string ⟨#[c]⟩] w fun e w' => e = .returned (.bool (pre x c)) ∧ w' = w := fun x c w => Tryz.strings_HasPrefix x ⟨#[c]⟩ w
  have hz1 := Jv.pre_size e69
  have ht1 : (r.extract 1 r.size).size ≤ r.size := by rw [ByteArray.size_extract]; omega
  have hD2 := Tryz.digits_any (r.extract 1 r.size) (by omega)
  have HX : Hid (isNumber s = num3 nought (dg1 (r.extract 1 r.size)) (dg2 (r.extract 1 r.size))) := HM.out.trans (by unfold num2; rw [if_pos (Or.inr e69)]; exact if_neg (by unfold tail1; rw [n43, n45]; simp))
  generalize dg1 (r.extract 1 r.size) = power at *
  generalize dg2 (r.extract 1 r.size) = rest at *
  clear HM ht1
  rcases hc with hc | ⟨hc, hc2⟩
  · skip
    have hp' : ¬ nought = emp := by decide
    by_cases hq : power.toList.isEmpty = true
    · have Hq' : Hid (power = emp) := (Jv.emp_iff power).2 hq
      go_enter Tryz.func121, Tryz.ntmps121
      go_wp2_with (first | (go_at_call 153; refine (hTP _).mono ?_; rintro e9 w9 ⟨rfl, rfl⟩) | (go_at_call 139; refine (hHP _ _ _).mono ?_; rintro e9 w9 ⟨rfl, rfl⟩) | (go_at_call 152; first | (refine (hD0 _).mono ?_; clear hD0; rintro e9 w1 ⟨rfl, hb1⟩) | (refine (hD1 _).mono ?_; clear hD1; rintro e9 w2 ⟨rfl, hb2⟩; replace hb1 := hb1.trans (hb2.mono hb1.size)) | (refine (hD2 _).mono ?_; clear hD2; rintro e9 w3 ⟨rfl, hb3⟩; replace hb1 := hb1.trans (hb3.mono hb1.size))) | fail)
      go_ret
      exact ⟨Jv.ret_bool (by rw [HX.out]; unfold num3; symm; simp [hp', Hq'.out]), hb1⟩
    · have hq' : ¬ power = emp := fun h => hq ((Jv.emp_iff power).1 h)
      have hq1 : power.toList.isEmpty = false := by simpa using hq
      clear hq
      by_cases hr : rest.toList.isEmpty = true
      · have Hr' : Hid (rest = emp) := (Jv.emp_iff rest).2 hr
        go_enter Tryz.func121, Tryz.ntmps121
        go_wp2_with (first | (go_at_call 153; refine (hTP _).mono ?_; rintro e9 w9 ⟨rfl, rfl⟩) | (go_at_call 139; refine (hHP _ _ _).mono ?_; rintro e9 w9 ⟨rfl, rfl⟩) | (go_at_call 152; first | (refine (hD0 _).mono ?_; clear hD0; rintro e9 w1 ⟨rfl, hb1⟩) | (refine (hD1 _).mono ?_; clear hD1; rintro e9 w2 ⟨rfl, hb2⟩; replace hb1 := hb1.trans (hb2.mono hb1.size)) | (refine (hD2 _).mono ?_; clear hD2; rintro e9 w3 ⟨rfl, hb3⟩; replace hb1 := hb1.trans (hb3.mono hb1.size))) | fail)
        go_ret
        exact ⟨Jv.ret_bool (by rw [HX.out]; unfold num3; symm; simp [hp', hq', Hr'.out]), hb1⟩
      · have hr' : ¬ rest = emp := fun h => hr ((Jv.emp_iff rest).1 h)
        have hr1 : rest.toList.isEmpty = false := by simpa using hr
        clear hr
        go_enter Tryz.func121, Tryz.ntmps121
        go_wp2_with (first | (go_at_call 153; refine (hTP _).mono ?_; rintro e9 w9 ⟨rfl, rfl⟩) | (go_at_call 139; refine (hHP _ _ _).mono ?_; rintro e9 w9 ⟨rfl, rfl⟩) | (go_at_call 152; first | (refine (hD0 _).mono ?_; clear hD0; rintro e9 w1 ⟨rfl, hb1⟩) | (refine (hD1 _).mono ?_; clear hD1; rintro e9 w2 ⟨rfl, hb2⟩; replace hb1 := hb1.trans (hb2.mono hb1.size)) | (refine (hD2 _).mono ?_; clear hD2; rintro e9 w3 ⟨rfl, hb3⟩; replace hb1 := hb1.trans (hb3.mono hb1.size))) | fail)
        go_ret
        exact ⟨Jv.ret_bool (by rw [HX.out]; unfold num3; symm; simp [hp', hq', hr']), hb1⟩
  · skip
    have hp' : ¬ nought = emp := by decide
    by_cases hq : power.toList.isEmpty = true
    · have Hq' : Hid (power = emp) := (Jv.emp_iff power).2 hq
      go_enter Tryz.func121, Tryz.ntmps121
      go_wp2_with (first | (go_at_call 153; refine (hTP _).mono ?_; rintro e9 w9 ⟨rfl, rfl⟩) | (go_at_call 139; refine (hHP _ _ _).mono ?_; rintro e9 w9 ⟨rfl, rfl⟩) | (go_at_call 152; first | (refine (hD0 _).mono ?_; clear hD0; rintro e9 w1 ⟨rfl, hb1⟩) | (refine (hD1 _).mono ?_; clear hD1; rintro e9 w2 ⟨rfl, hb2⟩; replace hb1 := hb1.trans (hb2.mono hb1.size)) | (refine (hD2 _).mono ?_; clear hD2; rintro e9 w3 ⟨rfl, hb3⟩; replace hb1 := hb1.trans (hb3.mono hb1.size))) | fail)
      go_ret
      exact ⟨Jv.ret_bool (by rw [HX.out]; unfold num3; symm; simp [hp', Hq'.out]), hb1⟩
    · have hq' : ¬ power = emp := fun h => hq ((Jv.emp_iff power).1 h)
      have hq1 : power.toList.isEmpty = false := by simpa using hq
      clear hq
      by_cases hr : rest.toList.isEmpty = true
      · have Hr' : Hid (rest = emp) := (Jv.emp_iff rest).2 hr
        go_enter Tryz.func121, Tryz.ntmps121
        go_wp2_with (first | (go_at_call 153; refine (hTP _).mono ?_; rintro e9 w9 ⟨rfl, rfl⟩) | (go_at_call 139; refine (hHP _ _ _).mono ?_; rintro e9 w9 ⟨rfl, rfl⟩) | (go_at_call 152; first | (refine (hD0 _).mono ?_; clear hD0; rintro e9 w1 ⟨rfl, hb1⟩) | (refine (hD1 _).mono ?_; clear hD1; rintro e9 w2 ⟨rfl, hb2⟩; replace hb1 := hb1.trans (hb2.mono hb1.size)) | (refine (hD2 _).mono ?_; clear hD2; rintro e9 w3 ⟨rfl, hb3⟩; replace hb1 := hb1.trans (hb3.mono hb1.size))) | fail)
        go_ret
        exact ⟨Jv.ret_bool (by rw [HX.out]; unfold num3; symm; simp [hp', hq', Hr'.out]), hb1⟩
      · have hr' : ¬ rest = emp := fun h => hr ((Jv.emp_iff rest).1 h)
        have hr1 : rest.toList.isEmpty = false := by simpa using hr
        clear hr
        go_enter Tryz.func121, Tryz.ntmps121
        go_wp2_with (first | (go_at_call 153; refine (hTP _).mono ?_; rintro e9 w9 ⟨rfl, rfl⟩) | (go_at_call 139; refine (hHP _ _ _).mono ?_; rintro e9 w9 ⟨rfl, rfl⟩) | (go_at_call 152; first | (refine (hD0 _).mono ?_; clear hD0; rintro e9 w1 ⟨rfl, hb1⟩) | (refine (hD1 _).mono ?_; clear hD1; rintro e9 w2 ⟨rfl, hb2⟩; replace hb1 := hb1.trans (hb2.mono hb1.size)) | (refine (hD2 _).mono ?_; clear hD2; rintro e9 w3 ⟨rfl, hb3⟩; replace hb1 := hb1.trans (hb3.mono hb1.size))) | fail)
        go_ret
        exact ⟨Jv.ret_bool (by rw [HX.out]; unfold num3; symm; simp [hp', hq', hr']), hb1⟩
end Go.Proofs
namespace Go.Proofs
open Go.RowKit Go.Jv
set_option maxHeartbeats 4000000 in
theorem Tryz.num_dn (s a r : ByteArray) (_hs : s.size ≤ 5000) (w : World) (hae : a.toList.isEmpty = false) (hD0 : ∀ w, Calls Tryz.prog 152 #[.string (trim s)] w fun e w' => e = .returned (.tuple #[.string a, .string r]) ∧ Below w.heap.size w w') (hrs : r.size ≤ 5000) (h0 : 0 < a.size) (x0 : UInt8) (hg : a[0]'h0 = x0) (hc : (a.size : Int) ≤ 1 ∨ ((1 < (a.size : Int)) ∧ ((x0.toNat : Int) == 48) = false)) (h46 : pre r 46 = true) (part r2 : ByteArray) (hpart : dg1 (r.extract 1 r.size) = part) (hr2 : dg2 (r.extract 1 r.size) = r2) (m101 : pre r2 101 = false) (m69 : pre r2 69 = false) (HM : Hid (isNumber s = num2 part r2)) :
    Calls Tryz.prog 121 #[.string s] w fun e w' => e = .returned (.bool (isNumber s)) ∧ Below w.heap.size w w' := by
  have hTP : ∀ w, Calls Tryz.prog 153 #[.string s, .string ⟨#[45]⟩] w fun e w' => e = .returned (.string (trim s)) ∧ w' = w := fun w => Tryz.strings_TrimPrefix s ⟨#[45]⟩ w
  have hHP : ∀ x c w, Calls Tryz.prog 139 #[.string x, .string ⟨#[c]⟩] w fun e w' => e = .returned (.bool (pre x c)) ∧ w' = w := fun x c w => Tryz.strings_HasPrefix x ⟨#[c]⟩ w
  have hz46 := Jv.pre_size h46
  have hr0 : (r.extract 1 r.size).size ≤ r.size := by rw [ByteArray.size_extract]; omega
  have hd1 := Jv.dg_size (r.extract 1 r.size)
  have hD1 := Tryz.digits_any (r.extract 1 r.size) (by omega)
  rw [hpart, hr2] at hD1 hd1
  have hr5 : r2.size ≤ 5000 := by omega
  clear hpart hr2 hd1 hr0
  have HX : Hid (isNumber s = num3 part nought r2) := HM.out.trans (by unfold num2; exact if_neg (by rw [m101, m69]; simp))
  clear HM
  rcases hc with hc | ⟨hc, hc2⟩
  · skip
    by_cases hp : part.toList.isEmpty = true
    · have Hp' : Hid (part = emp) := (Jv.emp_iff part).2 hp
      go_enter Tryz.func121, Tryz.ntmps121
      go_wp2_with (first | (go_at_call 153; refine (hTP _).mono ?_; rintro e9 w9 ⟨rfl, rfl⟩) | (go_at_call 139; refine (hHP _ _ _).mono ?_; rintro e9 w9 ⟨rfl, rfl⟩) | (go_at_call 152; first | (refine (hD0 _).mono ?_; clear hD0; rintro e9 w1 ⟨rfl, hb1⟩) | (refine (hD1 _).mono ?_; clear hD1; rintro e9 w2 ⟨rfl, hb2⟩; replace hb1 := hb1.trans (hb2.mono hb1.size)) | (refine (hD2 _).mono ?_; clear hD2; rintro e9 w3 ⟨rfl, hb3⟩; replace hb1 := hb1.trans (hb3.mono hb1.size))) | fail)
      go_ret
      exact ⟨Jv.ret_bool (by rw [HX.out]; unfold num3; symm; simp [Hp'.out]), hb1⟩
    · have hp' : ¬ part = emp := fun h => hp ((Jv.emp_iff part).1 h)
      have hp1 : part.toList.isEmpty = false := by simpa using hp
      clear hp
      have hq' : ¬ nought = emp := by decide
      by_cases hr : r2.toList.isEmpty = true
      · have Hr' : Hid (r2 = emp) := (Jv.emp_iff r2).2 hr
        go_enter Tryz.func121, Tryz.ntmps121
        go_wp2_with (first | (go_at_call 153; refine (hTP _).mono ?_; rintro e9 w9 ⟨rfl, rfl⟩) | (go_at_call 139; refine (hHP _ _ _).mono ?_; rintro e9 w9 ⟨rfl, rfl⟩) | (go_at_call 152; first | (refine (hD0 _).mono ?_; clear hD0; rintro e9 w1 ⟨rfl, hb1⟩) | (refine (hD1 _).mono ?_; clear hD1; rintro e9 w2 ⟨rfl, hb2⟩; replace hb1 := hb1.trans (hb2.mono hb1.size)) | (refine (hD2 _).mono ?_; clear hD2; rintro e9 w3 ⟨rfl, hb3⟩; replace hb1 := hb1.trans (hb3.mono hb1.size))) | fail)
        go_ret
        exact ⟨Jv.ret_bool (by rw [HX.out]; unfold num3; symm; simp [hp', hq', Hr'.out]), hb1⟩
      · have hr' : ¬ r2 = emp := fun h => hr ((Jv.emp_iff r2).1 h)
        have hr1 : r2.toList.isEmpty = false := by simpa using hr
        clear hr
        go_enter Tryz.func121, Tryz.ntmps121
        go_wp2_with (first | (go_at_call 153; refine (hTP _).mono ?_; rintro e9 w9 ⟨rfl, rfl⟩) | (go_at_call 139; refine (hHP _ _ _).mono ?_; rintro e9 w9 ⟨rfl, rfl⟩) | (go_at_call 152; first | (refine (hD0 _).mono ?_; clear hD0; rintro e9 w1 ⟨rfl, hb1⟩) | (refine (hD1 _).mono ?_; clear hD1; rintro e9 w2 ⟨rfl, hb2⟩; replace hb1 := hb1.trans (hb2.mono hb1.size)) | (refine (hD2 _).mono ?_; clear hD2; rintro e9 w3 ⟨rfl, hb3⟩; replace hb1 := hb1.trans (hb3.mono hb1.size))) | fail)
        go_ret
        exact ⟨Jv.ret_bool (by rw [HX.out]; unfold num3; symm; simp [hp', hq', hr']), hb1⟩
  · skip
    by_cases hp : part.toList.isEmpty = true
    · have Hp' : Hid (part = emp) := (Jv.emp_iff part).2 hp
      go_enter Tryz.func121, Tryz.ntmps121
      go_wp2_with (first | (go_at_call 153; refine (hTP _).mono ?_; rintro e9 w9 ⟨rfl, rfl⟩) | (go_at_call 139; refine (hHP _ _ _).mono ?_; rintro e9 w9 ⟨rfl, rfl⟩) | (go_at_call 152; first | (refine (hD0 _).mono ?_; clear hD0; rintro e9 w1 ⟨rfl, hb1⟩) | (refine (hD1 _).mono ?_; clear hD1; rintro e9 w2 ⟨rfl, hb2⟩; replace hb1 := hb1.trans (hb2.mono hb1.size)) | (refine (hD2 _).mono ?_; clear hD2; rintro e9 w3 ⟨rfl, hb3⟩; replace hb1 := hb1.trans (hb3.mono hb1.size))) | fail)
      go_ret
      exact ⟨Jv.ret_bool (by rw [HX.out]; unfold num3; symm; simp [Hp'.out]), hb1⟩
    · have hp' : ¬ part = emp := fun h => hp ((Jv.emp_iff part).1 h)
      have hp1 : part.toList.isEmpty = false := by simpa using hp
      clear hp
      have hq' : ¬ nought = emp := by decide
      by_cases hr : r2.toList.isEmpty = true
      · have Hr' : Hid (r2 = emp) := (Jv.emp_iff r2).2 hr
        go_enter Tryz.func121, Tryz.ntmps121
        go_wp2_with (first | (go_at_call 153; refine (hTP _).mono ?_; rintro e9 w9 ⟨rfl, rfl⟩) | (go_at_call 139; refine (hHP _ _ _).mono ?_; rintro e9 w9 ⟨rfl, rfl⟩) | (go_at_call 152; first | (refine (hD0 _).mono ?_; clear hD0; rintro e9 w1 ⟨rfl, hb1⟩) | (refine (hD1 _).mono ?_; clear hD1; rintro e9 w2 ⟨rfl, hb2⟩; replace hb1 := hb1.trans (hb2.mono hb1.size)) | (refine (hD2 _).mono ?_; clear hD2; rintro e9 w3 ⟨rfl, hb3⟩; replace hb1 := hb1.trans (hb3.mono hb1.size))) | fail)
        go_ret
        exact ⟨Jv.ret_bool (by rw [HX.out]; unfold num3; symm; simp [hp', hq', Hr'.out]), hb1⟩
      · have hr' : ¬ r2 = emp := fun h => hr ((Jv.emp_iff r2).1 h)
        have hr1 : r2.toList.isEmpty = false := by simpa using hr
        clear hr
        go_enter Tryz.func121, Tryz.ntmps121
        go_wp2_with (first | (go_at_call 153; refine (hTP _).mono ?_; rintro e9 w9 ⟨rfl, rfl⟩) | (go_at_call 139; refine (hHP _ _ _).mono ?_; rintro e9 w9 ⟨rfl, rfl⟩) | (go_at_call 152; first | (refine (hD0 _).mono ?_; clear hD0; rintro e9 w1 ⟨rfl, hb1⟩) | (refine (hD1 _).mono ?_; clear hD1; rintro e9 w2 ⟨rfl, hb2⟩; replace hb1 := hb1.trans (hb2.mono hb1.size)) | (refine (hD2 _).mono ?_; clear hD2; rintro e9 w3 ⟨rfl, hb3⟩; replace hb1 := hb1.trans (hb3.mono hb1.size))) | fail)
        go_ret
        exact ⟨Jv.ret_bool (by rw [HX.out]; unfold num3; symm; simp [hp', hq', hr']), hb1⟩
set_option maxHeartbeats 4000000 in
theorem Tryz.num_de43 (s a r : ByteArray) (_hs : s.size ≤ 5000) (w : World) (hae : a.toList.isEmpty = false) (hD0 : ∀ w, Calls Tryz.prog 152 #[.string (trim s)] w fun e w' => e = .returned (.tuple #[.string a, .string r]) ∧ Below w.heap.size w w') (hrs : r.size ≤ 5000) (h0 : 0 < a.size) (x0 : UInt8) (hg : a[0]'h0 = x0) (hc : (a.size : Int) ≤ 1 ∨ ((1 < (a.size : Int)) ∧ ((x0.toNat : Int) == 48) = false)) (h46 : pre r 46 = true) (part r2 : ByteArray) (hpart : dg1 (r.extract 1 r.size) = part) (hr2 : dg2 (r.extract 1 r.size) = r2) (e101 : pre r2 101 = true) (s43 : pre (r2.extract 1 r2.size) 43 = true) (HM : Hid (isNumber s = num2 part r2)) :
    Calls Tryz.prog 121 #[.string s] w fun e w' => e = .returned (.bool (isNumber s)) ∧ Below w.heap.size w w' := by
  have hTP : ∀ w, Calls Tryz.prog 153 #[.string s, .string ⟨#[45]⟩] w fun e w' => e = .returned (.string (trim s)) ∧ w' = w := fun w => Tryz.strings_TrimPrefix s ⟨#[45]⟩ w
  have hHP : ∀ x c w, Calls Tryz.prog 139 #[.string x, .string ⟨#[c]⟩] w fun e w' => e = .returned (.bool (pre x c)) ∧ w' = w := fun x c w => Tryz.strings_HasPrefix x ⟨#[c]⟩ w
  have hz46 := Jv.pre_size h46
  have hr0 : (r.extract 1 r.size).size ≤ r.size := by rw [ByteArray.size_extract]; omega
  have hd1 := Jv.dg_size (r.extract 1 r.size)
  have hD1 := Tryz.digits_any (r.extract 1 r.size) (by omega)
  rw [hpart, hr2] at hD1 hd1
  have hr5 : r2.size ≤ 5000 := by omega
  clear hpart hr2 hd1 hr0
  have hz1 := Jv.pre_size e101
  have ht1 : (r2.extract 1 r2.size).size ≤ r2.size := by rw [ByteArray.size_extract]; omega
  have hz2 := Jv.pre_size s43
  have ht2 : ((r2.extract 1 r2.size).extract 1 (r2.extract 1 r2.size).size).size ≤ (r2.extract 1 r2.size).size := by rw [ByteArray.size_extract]; omega
  have hD2 := Tryz.digits_any ((r2.extract 1 r2.size).extract 1 (r2.extract 1 r2.size).size) (by omega)
  have HX : Hid (isNumber s = num3 part (dg1 ((r2.extract 1 r2.size).extract 1 (r2.extract 1 r2.size).size)) (dg2 ((r2.extract 1 r2.size).extract 1 (r2.extract 1 r2.size).size))) := HM.out.trans (by unfold num2; rw [if_pos (Or.inl e101)]; exact if_pos (Or.inl s43))
  generalize dg1 ((r2.extract 1 r2.size).extract 1 (r2.extract 1 r2.size).size) = power at *
  generalize dg2 ((r2.extract 1 r2.size).extract 1 (r2.extract 1 r2.size).size) = rest at *
  have e0sz : (r2.extract 1 r2.size).size = r2.size - 1 := by rw [ByteArray.size_extract]; omega
  rw [e0sz] at hD2 hz2
  have hz3 : (2 : Int) ≤ r2.size := by omega
  clear HM ht1 ht2 hz2 e0sz
  rcases hc with hc | ⟨hc, hc2⟩
  · skip
    by_cases hp : part.toList.isEmpty = true
    · have Hp' : Hid (part = emp) := (Jv.emp_iff part).2 hp
      go_enter Tryz.func121, Tryz.ntmps121
      go_wp2_with (first | (go_at_call 153; refine (hTP _).mono ?_; rintro e9 w9 ⟨rfl, rfl⟩) | (go_at_call 139; refine (hHP _ _ _).mono ?_; rintro e9 w9 ⟨rfl, rfl⟩) | (go_at_call 152; first | (refine (hD0 _).mono ?_; clear hD0; rintro e9 w1 ⟨rfl, hb1⟩) | (refine (hD1 _).mono ?_; clear hD1; rintro e9 w2 ⟨rfl, hb2⟩; replace hb1 := hb1.trans (hb2.mono hb1.size)) | (refine (hD2 _).mono ?_; clear hD2; rintro e9 w3 ⟨rfl, hb3⟩; replace hb1 := hb1.trans (hb3.mono hb1.size))) | fail)
      go_ret
      exact ⟨Jv.ret_bool (by rw [HX.out]; unfold num3; symm; simp [Hp'.out]), hb1⟩
    · have hp' : ¬ part = emp := fun h => hp ((Jv.emp_iff part).1 h)
      have hp1 : part.toList.isEmpty = false := by simpa using hp
      clear hp
      by_cases hq : power.toList.isEmpty = true
      · have Hq' : Hid (power = emp) := (Jv.emp_iff power).2 hq
        go_enter Tryz.func121, Tryz.ntmps121
        go_wp2_with (first | (go_at_call 153; refine (hTP _).mono ?_; rintro e9 w9 ⟨rfl, rfl⟩) | (go_at_call 139; refine (hHP _ _ _).mono ?_; rintro e9 w9 ⟨rfl, rfl⟩) | (go_at_call 152; first | (refine (hD0 _).mono ?_; clear hD0; rintro e9 w1 ⟨rfl, hb1⟩) | (refine (hD1 _).mono ?_; clear hD1; rintro e9 w2 ⟨rfl, hb2⟩; replace hb1 := hb1.trans (hb2.mono hb1.size)) | (refine (hD2 _).mono ?_; clear hD2; rintro e9 w3 ⟨rfl, hb3⟩; replace hb1 := hb1.trans (hb3.mono hb1.size))) | fail)
        go_ret
        exact ⟨Jv.ret_bool (by rw [HX.out]; unfold num3; symm; simp [hp', Hq'.out]), hb1⟩
      · have hq' : ¬ power = emp := fun h => hq ((Jv.emp_iff power).1 h)
        have hq1 : power.toList.isEmpty = false := by simpa using hq
        clear hq
        by_cases hr : rest.toList.isEmpty = true
        · have Hr' : Hid (rest = emp) := (Jv.emp_iff rest).2 hr
          go_enter Tryz.func121, Tryz.ntmps121
          go_wp2_with (first | (go_at_call 153; refine (hTP _).mono ?_; rintro e9 w9 ⟨rfl, rfl⟩) | (go_at_call 139; refine (hHP _ _ _).mono ?_; rintro e9 w9 ⟨rfl, rfl⟩) | (go_at_call 152; first | (refine (hD0 _).mono ?_; clear hD0; rintro e9 w1 ⟨rfl, hb1⟩) | (refine (hD1 _).mono ?_; clear hD1; rintro e9 w2 ⟨rfl, hb2⟩; replace hb1 := hb1.trans (hb2.mono hb1.size)) | (refine (hD2 _).mono ?_; clear hD2; rintro e9 w3 ⟨rfl, hb3⟩; replace hb1 := hb1.trans (hb3.mono hb1.size))) | fail)
          go_ret
          exact ⟨Jv.ret_bool (by rw [HX.out]; unfold num3; symm; simp [hp', hq', Hr'.out]), hb1⟩
        · have hr' : ¬ rest = emp := fun h => hr ((Jv.emp_iff rest).1 h)
          have hr1 : rest.toList.isEmpty = false := by simpa using hr
          clear hr
          go_enter Tryz.func121, Tryz.ntmps121
          go_wp2_with (first | (go_at_call 153; refine (hTP _).mono ?_; rintro e9 w9 ⟨rfl, rfl⟩) | (go_at_call 139; refine (hHP _ _ _).mono ?_; rintro e9 w9 ⟨rfl, rfl⟩) | (go_at_call 152; first | (refine (hD0 _).mono ?_; clear hD0; rintro e9 w1 ⟨rfl, hb1⟩) | (refine (hD1 _).mono ?_; clear hD1; rintro e9 w2 ⟨rfl, hb2⟩; replace hb1 := hb1.trans (hb2.mono hb1.size)) | (refine (hD2 _).mono ?_; clear hD2; rintro e9 w3 ⟨rfl, hb3⟩; replace hb1 := hb1.trans (hb3.mono hb1.size))) | fail)
          go_ret
          exact ⟨Jv.ret_bool (by rw [HX.out]; unfold num3; symm; simp [hp', hq', hr']), hb1⟩
  · skip
    by_cases hp : part.toList.isEmpty = true
    · have Hp' : Hid (part = emp) := (Jv.emp_iff part).2 hp
      go_enter Tryz.func121, Tryz.ntmps121
      go_wp2_with (first | (go_at_call 153; refine (hTP _).mono ?_; rintro e9 w9 ⟨rfl, rfl⟩) | (go_at_call 139; refine (hHP _ _ _).mono ?_; rintro e9 w9 ⟨rfl, rfl⟩) | (go_at_call 152; first | (refine (hD0 _).mono ?_; clear hD0; rintro e9 w1 ⟨rfl, hb1⟩) | (refine (hD1 _).mono ?_; clear hD1; rintro e9 w2 ⟨rfl, hb2⟩; replace hb1 := hb1.trans (hb2.mono hb1.size)) | (refine (hD2 _).mono ?_; clear hD2; rintro e9 w3 ⟨rfl, hb3⟩; replace hb1 := hb1.trans (hb3.mono hb1.size))) | fail)
      go_ret
      exact ⟨Jv.ret_bool (by rw [HX.out]; unfold num3; symm; simp [Hp'.out]), hb1⟩
    · have hp' : ¬ part = emp := fun h => hp ((Jv.emp_iff part).1 h)
      have hp1 : part.toList.isEmpty = false := by simpa using hp
      clear hp
      by_cases hq : power.toList.isEmpty = true
      · have Hq' : Hid (power = emp) := (Jv.emp_iff power).2 hq
        go_enter Tryz.func121, Tryz.ntmps121
        go_wp2_with (first | (go_at_call 153; refine (hTP _).mono ?_; rintro e9 w9 ⟨rfl, rfl⟩) | (go_at_call 139; refine (hHP _ _ _).mono ?_; rintro e9 w9 ⟨rfl, rfl⟩) | (go_at_call 152; first | (refine (hD0 _).mono ?_; clear hD0; rintro e9 w1 ⟨rfl, hb1⟩) | (refine (hD1 _).mono ?_; clear hD1; rintro e9 w2 ⟨rfl, hb2⟩; replace hb1 := hb1.trans (hb2.mono hb1.size)) | (refine (hD2 _).mono ?_; clear hD2; rintro e9 w3 ⟨rfl, hb3⟩; replace hb1 := hb1.trans (hb3.mono hb1.size))) | fail)
        go_ret
        exact ⟨Jv.ret_bool (by rw [HX.out]; unfold num3; symm; simp [hp', Hq'.out]), hb1⟩
      · have hq' : ¬ power = emp := fun h => hq ((Jv.emp_iff power).1 h)
        have hq1 : power.toList.isEmpty = false := by simpa using hq
        clear hq
        by_cases hr : rest.toList.isEmpty = true
        · have Hr' : Hid (rest = emp) := (Jv.emp_iff rest).2 hr
          go_enter Tryz.func121, Tryz.ntmps121
          go_wp2_with (first | (go_at_call 153; refine (hTP _).mono ?_; rintro e9 w9 ⟨rfl, rfl⟩) | (go_at_call 139; refine (hHP _ _ _).mono ?_; rintro e9 w9 ⟨rfl, rfl⟩) | (go_at_call 152; first | (refine (hD0 _).mono ?_; clear hD0; rintro e9 w1 ⟨rfl, hb1⟩) | (refine (hD1 _).mono ?_; clear hD1; rintro e9 w2 ⟨rfl, hb2⟩; replace hb1 := hb1.trans (hb2.mono hb1.size)) | (refine (hD2 _).mono ?_; clear hD2; rintro e9 w3 ⟨rfl, hb3⟩; replace hb1 := hb1.trans (hb3.mono hb1.size))) | fail)
          go_ret
          exact ⟨Jv.ret_bool (by rw [HX.out]; unfold num3; symm; simp [hp', hq', Hr'.out]), hb1⟩
        · have hr' : ¬ rest = emp := fun h => hr ((Jv.emp_iff rest).1 h)
          have hr1 : rest.toList.isEmpty = false := by simpa using hr
          clear hr
          go_enter Tryz.func121, Tryz.ntmps121
          go_wp2_with (first | (go_at_call 153; refine (hTP _).mono ?_; rintro e9 w9 ⟨rfl, rfl⟩) | (go_at_call 139; refine (hHP _ _ _).mono ?_; rintro e9 w9 ⟨rfl, rfl⟩) | (go_at_call 152; first | (refine (hD0 _).mono ?_; clear hD0; rintro e9 w1 ⟨rfl, hb1⟩) | (refine (hD1 _).mono ?_; clear hD1; rintro e9 w2 ⟨rfl, hb2⟩; replace hb1 := hb1.trans (hb2.mono hb1.size)) | (refine (hD2 _).mono ?_; clear hD2; rintro e9 w3 ⟨rfl, hb3⟩; replace hb1 := hb1.trans (hb3.mono hb1.size))) | fail)
          go_ret
          exact ⟨Jv.ret_bool (by rw [HX.out]; unfold num3; symm; simp [hp', hq', hr']), hb1⟩
set_option maxHeartbeats 4000000 in
theorem Tryz.num_de45 (s a r : ByteArray) (_hs : s.size ≤ 5000) (w : World) (hae : a.toList.isEmpty = false) (hD0 : ∀ w, Calls Tryz.prog 152 #[.string (trim s)] w fun e w' => e = .returned (.tuple #[.string a, .string r]) ∧ Below w.heap.size w w') (hrs : r.size ≤ 5000) (h0 : 0 < a.size) (x0 : UInt8) (hg : a[0]'h0 = x0) (hc : (a.size : Int) ≤ 1 ∨ ((1 < (a.size : Int)) ∧ ((x0.toNat : Int) == 48) = false)) (h46 : pre r 46 = true) (part r2 : ByteArray) (hpart : dg1 (r.extract 1 r.size) = part) (hr2 : dg2 (r.extract 1 r.size) = r2) (e101 : pre r2 101 = true) (n43 : pre (r2.extract 1 r2.size) 43 = false) (s45 : pre (r2.extract 1 r2.size) 45 = true) (HM : Hid (isNumber s = num2 part r2)) :
    Calls Tryz.prog 121 #[.string s] w fun e w' => e = .returned (.bool (isNumber s)) ∧ Below w.heap.size w w' := by
  have hTP : ∀ w, Calls Tryz.prog 153 #[.string s, .string ⟨#[45]⟩] w fun e w' => e = .returned (.string (trim s)) ∧ w' = w := fun w => Tryz.strings_TrimPrefix s ⟨#[45]⟩ w
  have hHP : ∀ x c w, Calls Tryz.prog 139 #[.string x, .string ⟨#[c]⟩] w fun e w' => e = .returned (.bool (pre x c)) ∧ w' = w := fun x c w => Tryz.strings_HasPrefix x ⟨#[c]⟩ w
  have hz46 := Jv.pre_size h46
  have hr0 : (r.extract 1 r.size).size ≤ r.size := by rw [ByteArray.size_extract]; omega
  have hd1 := Jv.dg_size (r.extract 1 r.size)
  have hD1 := Tryz.digits_any (r.extract 1 r.size) (by omega)
  rw [hpart, hr2] at hD1 hd1
  have hr5 : r2.size ≤ 5000 := by omega
  clear hpart hr2 hd1 hr0
  have hz1 := Jv.pre_size e101
  have ht1 : (r2.extract 1 r2.size).size ≤ r2.size := by rw [ByteArray.size_extract]; omega
  have hz2 := Jv.pre_size s45
  have ht2 : ((r2.extract 1 r2.size).extract 1 (r2.extract 1 r2.size).size).size ≤ (r2.extract 1 r2.size).size := by rw [ByteArray.size_extract]; omega
  have hD2 := Tryz.digits_any ((r2.extract 1 r2.size).extract 1 (r2.extract 1 r2.size).size) (by omega)
  have HX : Hid (isNumber s = num3 part (dg1 ((r2.extract 1 r2.size).extract 1 (r2.extract 1 r2.size).size)) (dg2 ((r2.extract 1 r2.size).extract 1 (r2.extract 1 r2.size).size))) := HM.out.trans (by unfold num2; rw [if_pos (Or.inl e101)]; exact if_pos (Or.inr s45))
  generalize dg1 ((r2.extract 1 r2.size).extract 1 (r2.extract 1 r2.size).size) = power at *
  generalize dg2 ((r2.extract 1 r2.size).extract 1 (r2.extract 1 r2.size).size) = rest at *
  have e0sz : (r2.extract 1 r2.size).size = r2.size - 1 := by rw [ByteArray.size_extract]; omega
  rw [e0sz] at hD2 hz2
  have hz3 : (2 : Int) ≤ r2.size := by omega
  clear HM ht1 ht2 hz2 e0sz
  rcases hc with hc | ⟨hc, hc2⟩
  · skip
    by_cases hp : part.toList.isEmpty = true
    · have Hp' : Hid (part = emp) := (Jv.emp_iff part).2 hp
      go_enter Tryz.func121, Tryz.ntmps121
      go_wp2_with (first | (go_at_call 153; refine (hTP _).mono ?_; rintro e9 w9 ⟨rfl, rfl⟩) | (go_at_call 139; refine (hHP _ _ _).mono ?_; rintro e9 w9 ⟨rfl, rfl⟩) | (go_at_call 152; first | (refine (hD0 _).mono ?_; clear hD0; rintro e9 w1 ⟨rfl, hb1⟩) | (refine (hD1 _).mono ?_; clear hD1; rintro e9 w2 ⟨rfl, hb2⟩; replace hb1 := hb1.trans (hb2.mono hb1.size)) | (refine (hD2 _).mono ?_; clear hD2; rintro e9 w3 ⟨rfl, hb3⟩; replace hb1 := hb1.trans (hb3.mono hb1.size))) | fail)
      go_ret
      exact ⟨Jv.ret_bool (by rw [HX.out]; unfold num3; symm; simp [Hp'.out]), hb1⟩
    · have hp' : ¬ part = emp := fun h => hp ((Jv.emp_iff part).1 h)
      have hp1 : part.toList.isEmpty = false := by simpa using hp
      clear hp
      by_cases hq : power.toList.isEmpty = true
      · have Hq' : Hid (power = emp) := (Jv.emp_iff power).2 hq
        go_enter Tryz.func121, Tryz.ntmps121
        go_wp2_with (first | (go_at_call 153; refine (hTP _).mono ?_; rintro e9 w9 ⟨rfl, rfl⟩) | (go_at_call 139; refine (hHP _ _ _).mono ?_; rintro e9 w9 ⟨rfl, rfl⟩) | (go_at_call 152; first | (refine (hD0 _).mono ?_; clear hD0; rintro e9 w1 ⟨rfl, hb1⟩) | (refine (hD1 _).mono ?_; clear hD1; rintro e9 w2 ⟨rfl, hb2⟩; replace hb1 := hb1.trans (hb2.mono hb1.size)) | (refine (hD2 _).mono ?_; clear hD2; rintro e9 w3 ⟨rfl, hb3⟩; replace hb1 := hb1.trans (hb3.mono hb1.size))) | fail)
        go_ret
        exact ⟨Jv.ret_bool (by rw [HX.out]; unfold num3; symm; simp [hp', Hq'.out]), hb1⟩
      · have hq' : ¬ power = emp := fun h => hq ((Jv.emp_iff power).1 h)
        have hq1 : power.toList.isEmpty = false := by simpa using hq
        clear hq
        by_cases hr : rest.toList.isEmpty = true
        · have Hr' : Hid (rest = emp) := (Jv.emp_iff rest).2 hr
          go_enter Tryz.func121, Tryz.ntmps121
          go_wp2_with (first | (go_at_call 153; refine (hTP _).mono ?_; rintro e9 w9 ⟨rfl, rfl⟩) | (go_at_call 139; refine (hHP _ _ _).mono ?_; rintro e9 w9 ⟨rfl, rfl⟩) | (go_at_call 152; first | (refine (hD0 _).mono ?_; clear hD0; rintro e9 w1 ⟨rfl, hb1⟩) | (refine (hD1 _).mono ?_; clear hD1; rintro e9 w2 ⟨rfl, hb2⟩; replace hb1 := hb1.trans (hb2.mono hb1.size)) | (refine (hD2 _).mono ?_; clear hD2; rintro e9 w3 ⟨rfl, hb3⟩; replace hb1 := hb1.trans (hb3.mono hb1.size))) | fail)
          go_ret
          exact ⟨Jv.ret_bool (by rw [HX.out]; unfold num3; symm; simp [hp', hq', Hr'.out]), hb1⟩
        · have hr' : ¬ rest = emp := fun h => hr ((Jv.emp_iff rest).1 h)
          have hr1 : rest.toList.isEmpty = false := by simpa using hr
          clear hr
          go_enter Tryz.func121, Tryz.ntmps121
          go_wp2_with (first | (go_at_call 153; refine (hTP _).mono ?_; rintro e9 w9 ⟨rfl, rfl⟩) | (go_at_call 139; refine (hHP _ _ _).mono ?_; rintro e9 w9 ⟨rfl, rfl⟩) | (go_at_call 152; first | (refine (hD0 _).mono ?_; clear hD0; rintro e9 w1 ⟨rfl, hb1⟩) | (refine (hD1 _).mono ?_; clear hD1; rintro e9 w2 ⟨rfl, hb2⟩; replace hb1 := hb1.trans (hb2.mono hb1.size)) | (refine (hD2 _).mono ?_; clear hD2; rintro e9 w3 ⟨rfl, hb3⟩; replace hb1 := hb1.trans (hb3.mono hb1.size))) | fail)
          go_ret
          exact ⟨Jv.ret_bool (by rw [HX.out]; unfold num3; symm; simp [hp', hq', hr']), hb1⟩
  · skip
    by_cases hp : part.toList.isEmpty = true
    · have Hp' : Hid (part = emp) := (Jv.emp_iff part).2 hp
      go_enter Tryz.func121, Tryz.ntmps121
      go_wp2_with (first | (go_at_call 153; refine (hTP _).mono ?_; rintro e9 w9 ⟨rfl, rfl⟩) | (go_at_call 139; refine (hHP _ _ _).mono ?_; rintro e9 w9 ⟨rfl, rfl⟩) | (go_at_call 152; first | (refine (hD0 _).mono ?_; clear hD0; rintro e9 w1 ⟨rfl, hb1⟩) | (refine (hD1 _).mono ?_; clear hD1; rintro e9 w2 ⟨rfl, hb2⟩; replace hb1 := hb1.trans (hb2.mono hb1.size)) | (refine (hD2 _).mono ?_; clear hD2; rintro e9 w3 ⟨rfl, hb3⟩; replace hb1 := hb1.trans (hb3.mono hb1.size))) | fail)
      go_ret
      exact ⟨Jv.ret_bool (by rw [HX.out]; unfold num3; symm; simp [Hp'.out]), hb1⟩
    · have hp' : ¬ part = emp := fun h => hp ((Jv.emp_iff part).1 h)
      have hp1 : part.toList.isEmpty = false := by simpa using hp
      clear hp
      by_cases hq : power.toList.isEmpty = true
      · have Hq' : Hid (power = emp) := (Jv.emp_iff power).2 hq
        go_enter Tryz.func121, Tryz.ntmps121
        go_wp2_with (first | (go_at_call 153; refine (hTP _).mono ?_; rintro e9 w9 ⟨rfl, rfl⟩) | (go_at_call 139; refine (hHP _ _ _).mono ?_; rintro e9 w9 ⟨rfl, rfl⟩) | (go_at_call 152; first | (refine (hD0 _).mono ?_; clear hD0; rintro e9 w1 ⟨rfl, hb1⟩) | (refine (hD1 _).mono ?_; clear hD1; rintro e9 w2 ⟨rfl, hb2⟩; replace hb1 := hb1.trans (hb2.mono hb1.size)) | (refine (hD2 _).mono ?_; clear hD2; rintro e9 w3 ⟨rfl, hb3⟩; replace hb1 := hb1.trans (hb3.mono hb1.size))) | fail)
        go_ret
        exact ⟨Jv.ret_bool (by rw [HX.out]; unfold num3; symm; simp [hp', Hq'.out]), hb1⟩
      · have hq' : ¬ power = emp := fun h => hq ((Jv.emp_iff power).1 h)
        have hq1 : power.toList.isEmpty = false := by simpa using hq
        clear hq
        by_cases hr : rest.toList.isEmpty = true
        · have Hr' : Hid (rest = emp) := (Jv.emp_iff rest).2 hr
          go_enter Tryz.func121, Tryz.ntmps121
          go_wp2_with (first | (go_at_call 153; refine (hTP _).mono ?_; rintro e9 w9 ⟨rfl, rfl⟩) | (go_at_call 139; refine (hHP _ _ _).mono ?_; rintro e9 w9 ⟨rfl, rfl⟩) | (go_at_call 152; first | (refine (hD0 _).mono ?_; clear hD0; rintro e9 w1 ⟨rfl, hb1⟩) | (refine (hD1 _).mono ?_; clear hD1; rintro e9 w2 ⟨rfl, hb2⟩; replace hb1 := hb1.trans (hb2.mono hb1.size)) | (refine (hD2 _).mono ?_; clear hD2; rintro e9 w3 ⟨rfl, hb3⟩; replace hb1 := hb1.trans (hb3.mono hb1.size))) | fail)
          go_ret
          exact ⟨Jv.ret_bool (by rw [HX.out]; unfold num3; symm; simp [hp', hq', Hr'.out]), hb1⟩
        · have hr' : ¬ rest = emp := fun h => hr ((Jv.emp_iff rest).1 h)
          have hr1 : rest.toList.isEmpty = false := by simpa using hr
          clear hr
          go_enter Tryz.func121, Tryz.ntmps121
          go_wp2_with (first | (go_at_call 153; refine (hTP _).mono ?_; rintro e9 w9 ⟨rfl, rfl⟩) | (go_at_call 139; refine (hHP _ _ _).mono ?_; rintro e9 w9 ⟨rfl, rfl⟩) | (go_at_call 152; first | (refine (hD0 _).mono ?_; clear hD0; rintro e9 w1 ⟨rfl, hb1⟩) | (refine (hD1 _).mono ?_; clear hD1; rintro e9 w2 ⟨rfl, hb2⟩; replace hb1 := hb1.trans (hb2.mono hb1.size)) | (refine (hD2 _).mono ?_; clear hD2; rintro e9 w3 ⟨rfl, hb3⟩; replace hb1 := hb1.trans (hb3.mono hb1.size))) | fail)
          go_ret
          exact ⟨Jv.ret_bool (by rw [HX.out]; unfold num3; symm; simp [hp', hq', hr']), hb1⟩
set_option maxHeartbeats 4000000 in
theorem Tryz.num_de (s a r : ByteArray) (_hs : s.size ≤ 5000) (w : World) (hae : a.toList.isEmpty = false) (hD0 : ∀ w, Calls Tryz.prog 152 #[.string (trim s)] w fun e w' => e = .returned (.tuple #[.string a, .string r]) ∧ Below w.heap.size w w') (hrs : r.size ≤ 5000) (h0 : 0 < a.size) (x0 : UInt8) (hg : a[0]'h0 = x0) (hc : (a.size : Int) ≤ 1 ∨ ((1 < (a.size : Int)) ∧ ((x0.toNat : Int) == 48) = false)) (h46 : pre r 46 = true) (part r2 : ByteArray) (hpart : dg1 (r.extract 1 r.size) = part) (hr2 : dg2 (r.extract 1 r.size) = r2) (e101 : pre r2 101 = true) (n43 : pre (r2.extract 1 r2.size) 43 = false) (n45 : pre (r2.extract 1 r2.size) 45 = false) (HM : Hid (isNumber s = num2 part r2)) :
    Calls Tryz.prog 121 #[.string s] w fun e w' => e = .returned (.bool (isNumber s)) ∧ Below w.heap.size w w' := by
  have hTP : ∀ w, Calls Tryz.prog 153 #[.string s, .string ⟨#[45]⟩] w fun e w' => e = .returned (.string (trim s)) ∧ w' = w := fun w => Tryz.strings_TrimPrefix s ⟨#[45]⟩ w
  have hHP : ∀ x c w, Calls Tryz.prog 139 #[.string x, .string ⟨#[c]⟩] w fun e w' => e = .returned (.bool (pre x c)) ∧ w' = w := fun x c w => Tryz.strings_HasPrefix x ⟨#[c]⟩ w
  have hz46 := Jv.pre_size h46
  have hr0 : (r.extract 1 r.size).size ≤ r.size := by rw [ByteArray.size_extract]; omega
  have hd1 := Jv.dg_size (r.extract 1 r.size)
  have hD1 := Tryz.digits_any (r.extract 1 r.size) (by omega)
  rw [hpart, hr2] at hD1 hd1
  have hr5 : r2.size ≤ 5000 := by omega
  clear hpart hr2 hd1 hr0
  have hz1 := Jv.pre_size e101
  have ht1 : (r2.extract 1 r2.size).size ≤ r2.size := by rw [ByteArray.size_extract]; omega
  have hD2 := Tryz.digits_any (r2.extract 1 r2.size) (by omega)
  have HX : Hid (isNumber s = num3 part (dg1 (r2.extract 1 r2.size)) (dg2 (r2.extract 1 r2.size))) := HM.out.trans (by unfold num2; rw [if_pos (Or.inl e101)]; exact if_neg (by unfold tail1; rw [n43, n45]; simp))
  generalize dg1 (r2.extract 1 r2.size) = power at *
  generalize dg2 (r2.extract 1 r2.size) = rest at *
  clear HM ht1
  rcases hc with hc | ⟨hc, hc2⟩
  · skip
    by_cases hp : part.toList.isEmpty = true
    · have Hp' : Hid (part = emp) := (Jv.emp_iff part).2 hp
      go_enter Tryz.func121, Tryz.ntmps121
      go_wp2_with (first | (go_at_call 153; refine (hTP _).mono ?_; rintro e9 w9 ⟨rfl, rfl⟩) | (go_at_call 139; refine (hHP _ _ _).mono ?_; rintro e9 w9 ⟨rfl, rfl⟩) | (go_at_call 152; first | (refine (hD0 _).mono ?_; clear hD0; rintro e9 w1 ⟨rfl, hb1⟩) | (refine (hD1 _).mono ?_; clear hD1; rintro e9 w2 ⟨rfl, hb2⟩; replace hb1 := hb1.trans (hb2.mono hb1.size)) | (refine (hD2 _).mono ?_; clear hD2; rintro e9 w3 ⟨rfl, hb3⟩; replace hb1 := hb1.trans (hb3.mono hb1.size))) | fail)
      go_ret
      exact ⟨Jv.ret_bool (by rw [HX.out]; unfold num3; symm; simp [Hp'.out]), hb1⟩
    · have hp' : ¬ part = emp := fun h => hp ((Jv.emp_iff part).1 h)
      have hp1 : part.toList.isEmpty = false := by simpa using hp
      clear hp
      by_cases hq : power.toList.isEmpty = true
      · have Hq' : Hid (power = emp) := (Jv.emp_iff power).2 hq
        go_enter Tryz.func121, Tryz.ntmps121
        go_wp2_with (first | (go_at_call 153; refine (hTP _).mono ?_; rintro e9 w9 ⟨rfl, rfl⟩) | (go_at_call 139; refine (hHP _ _ _).mono ?_; rintro e9 w9 ⟨rfl, rfl⟩) | (go_at_call 152; first | (refine (hD0 _).mono ?_; clear hD0; rintro e9 w1 ⟨rfl, hb1⟩) | (refine (hD1 _).mono ?_; clear hD1; rintro e9 w2 ⟨rfl, hb2⟩; replace hb1 := hb1.trans (hb2.mono hb1.size)) | (refine (hD2 _).mono ?_; clear hD2; rintro e9 w3 ⟨rfl, hb3⟩; replace hb1 := hb1.trans (hb3.mono hb1.size))) | fail)
        go_ret
        exact ⟨Jv.ret_bool (by rw [HX.out]; unfold num3; symm; simp [hp', Hq'.out]), hb1⟩
      · have hq' : ¬ power = emp := fun h => hq ((Jv.emp_iff power).1 h)
        have hq1 : power.toList.isEmpty = false := by simpa using hq
        clear hq
        by_cases hr : rest.toList.isEmpty = true
        · have Hr' : Hid (rest = emp) := (Jv.emp_iff rest).2 hr
          go_enter Tryz.func121, Tryz.ntmps121
          go_wp2_with (first | (go_at_call 153; refine (hTP _).mono ?_; rintro e9 w9 ⟨rfl, rfl⟩) | (go_at_call 139; refine (hHP _ _ _).mono ?_; rintro e9 w9 ⟨rfl, rfl⟩) | (go_at_call 152; first | (refine (hD0 _).mono ?_; clear hD0; rintro e9 w1 ⟨rfl, hb1⟩) | (refine (hD1 _).mono ?_; clear hD1; rintro e9 w2 ⟨rfl, hb2⟩; replace hb1 := hb1.trans (hb2.mono hb1.size)) | (refine (hD2 _).mono ?_; clear hD2; rintro e9 w3 ⟨rfl, hb3⟩; replace hb1 := hb1.trans (hb3.mono hb1.size))) | fail)
          go_ret
          exact ⟨Jv.ret_bool (by rw [HX.out]; unfold num3; symm; simp [hp', hq', Hr'.out]), hb1⟩
        · have hr' : ¬ rest = emp := fun h => hr ((Jv.emp_iff rest).1 h)
          have hr1 : rest.toList.isEmpty = false := by simpa using hr
          clear hr
          go_enter Tryz.func121, Tryz.ntmps121
          go_wp2_with (first | (go_at_call 153; refine (hTP _).mono ?_; rintro e9 w9 ⟨rfl, rfl⟩) | (go_at_call 139; refine (hHP _ _ _).mono ?_; rintro e9 w9 ⟨rfl, rfl⟩) | (go_at_call 152; first | (refine (hD0 _).mono ?_; clear hD0; rintro e9 w1 ⟨rfl, hb1⟩) | (refine (hD1 _).mono ?_; clear hD1; rintro e9 w2 ⟨rfl, hb2⟩; replace hb1 := hb1.trans (hb2.mono hb1.size)) | (refine (hD2 _).mono ?_; clear hD2; rintro e9 w3 ⟨rfl, hb3⟩; replace hb1 := hb1.trans (hb3.mono hb1.size))) | fail)
          go_ret
          exact ⟨Jv.ret_bool (by rw [HX.out]; unfold num3; symm; simp [hp', hq', hr']), hb1⟩
  · skip
    by_cases hp : part.toList.isEmpty = true
    · have Hp' : Hid (part = emp) := (Jv.emp_iff part).2 hp
      go_enter Tryz.func121, Tryz.ntmps121
      go_wp2_with (first | (go_at_call 153; refine (hTP _).mono ?_; rintro e9 w9 ⟨rfl, rfl⟩) | (go_at_call 139; refine (hHP _ _ _).mono ?_; rintro e9 w9 ⟨rfl, rfl⟩) | (go_at_call 152; first | (refine (hD0 _).mono ?_; clear hD0; rintro e9 w1 ⟨rfl, hb1⟩) | (refine (hD1 _).mono ?_; clear hD1; rintro e9 w2 ⟨rfl, hb2⟩; replace hb1 := hb1.trans (hb2.mono hb1.size)) | (refine (hD2 _).mono ?_; clear hD2; rintro e9 w3 ⟨rfl, hb3⟩; replace hb1 := hb1.trans (hb3.mono hb1.size))) | fail)
      go_ret
      exact ⟨Jv.ret_bool (by rw [HX.out]; unfold num3; symm; simp [Hp'.out]), hb1⟩
    · have hp' : ¬ part = emp := fun h => hp ((Jv.emp_iff part).1 h)
      have hp1 : part.toList.isEmpty = false := by simpa using hp
      clear hp
      by_cases hq : power.toList.isEmpty = true
      · have Hq' : Hid (power = emp) := (Jv.emp_iff power).2 hq
        go_enter Tryz.func121, Tryz.ntmps121
        go_wp2_with (first | (go_at_call 153; refine (hTP _).mono ?_; rintro e9 w9 ⟨rfl, rfl⟩) | (go_at_call 139; refine (hHP _ _ _).mono ?_; rintro e9 w9 ⟨rfl, rfl⟩) | (go_at_call 152; first | (refine (hD0 _).mono ?_; clear hD0; rintro e9 w1 ⟨rfl, hb1⟩) | (refine (hD1 _).mono ?_; clear hD1; rintro e9 w2 ⟨rfl, hb2⟩; replace hb1 := hb1.trans (hb2.mono hb1.size)) | (refine (hD2 _).mono ?_; clear hD2; rintro e9 w3 ⟨rfl, hb3⟩; replace hb1 := hb1.trans (hb3.mono hb1.size))) | fail)
        go_ret
        exact ⟨Jv.ret_bool (by rw [HX.out]; unfold num3; symm; simp [hp', Hq'.out]), hb1⟩
      · have hq' : ¬ power = emp := fun h => hq ((Jv.emp_iff power).1 h)
        have hq1 : power.toList.isEmpty = false := by simpa using hq
        clear hq
        by_cases hr : rest.toList.isEmpty = true
        · have Hr' : Hid (rest = emp) := (Jv.emp_iff rest).2 hr
          go_enter Tryz.func121, Tryz.ntmps121
          go_wp2_with (first | (go_at_call 153; refine (hTP _).mono ?_; rintro e9 w9 ⟨rfl, rfl⟩) | (go_at_call 139; refine (hHP _ _ _).mono ?_; rintro e9 w9 ⟨rfl, rfl⟩) | (go_at_call 152; first | (refine (hD0 _).mono ?_; clear hD0; rintro e9 w1 ⟨rfl, hb1⟩) | (refine (hD1 _).mono ?_; clear hD1; rintro e9 w2 ⟨rfl, hb2⟩; replace hb1 := hb1.trans (hb2.mono hb1.size)) | (refine (hD2 _).mono ?_; clear hD2; rintro e9 w3 ⟨rfl, hb3⟩; replace hb1 := hb1.trans (hb3.mono hb1.size))) | fail)
          go_ret
          exact ⟨Jv.ret_bool (by rw [HX.out]; unfold num3; symm; simp [hp', hq', Hr'.out]), hb1⟩
        · have hr' : ¬ rest = emp := fun h => hr ((Jv.emp_iff rest).1 h)
          have hr1 : rest.toList.isEmpty = false := by simpa using hr
          clear hr
          go_enter Tryz.func121, Tryz.ntmps121
          go_wp2_with (first | (go_at_call 153; refine (hTP _).mono ?_; rintro e9 w9 ⟨rfl, rfl⟩) | (go_at_call 139; refine (hHP _ _ _).mono ?_; rintro e9 w9 ⟨rfl, rfl⟩) | (go_at_call 152; first | (refine (hD0 _).mono ?_; clear hD0; rintro e9 w1 ⟨rfl, hb1⟩) | (refine (hD1 _).mono ?_; clear hD1; rintro e9 w2 ⟨rfl, hb2⟩; replace hb1 := hb1.trans (hb2.mono hb1.size)) | (refine (hD2 _).mono ?_; clear hD2; rintro e9 w3 ⟨rfl, hb3⟩; replace hb1 := hb1.trans (hb3.mono hb1.size))) | fail)
          go_ret
          exact ⟨Jv.ret_bool (by rw [HX.out]; unfold num3; symm; simp [hp', hq', hr']), hb1⟩
set_option maxHeartbeats 4000000 in
theorem Tryz.num_dE43 (s a r : ByteArray) (_hs : s.size ≤ 5000) (w : World) (hae : a.toList.isEmpty = false) (hD0 : ∀ w, Calls Tryz.prog 152 #[.string (trim s)] w fun e w' => e = .returned (.tuple #[.string a, .string r]) ∧ Below w.heap.size w w') (hrs : r.size ≤ 5000) (h0 : 0 < a.size) (x0 : UInt8) (hg : a[0]'h0 = x0) (hc : (a.size : Int) ≤ 1 ∨ ((1 < (a.size : Int)) ∧ ((x0.toNat : Int) == 48) = false)) (h46 : pre r 46 = true) (part r2 : ByteArray) (hpart : dg1 (r.extract 1 r.size) = part) (hr2 : dg2 (r.extract 1 r.size) = r2) (m101 : pre r2 101 = false) (e69 : pre r2 69 = true) (s43 : pre (r2.extract 1 r2.size) 43 = true) (HM : Hid (isNumber s = num2 part r2)) :
    Calls Tryz.prog 121 #[.string s] w fun e w' => e = .returned (.bool (isNumber s)) ∧ Below w.heap.size w w' := by
  have hTP : ∀ w, Calls Tryz.prog 153 #[.string s, .string ⟨#[45]⟩] w fun e w' => e = .returned (.string (trim s)) ∧ w' = w := fun w => Tryz.strings_TrimPrefix s ⟨#[45]⟩ w
  have hHP : ∀ x c w, Calls Tryz.prog 139 #[.string x, .string ⟨#[c]⟩] w fun e w' => e = .returned (.bool (pre x c)) ∧ w' = w := fun x c w => Tryz.strings_HasPrefix x ⟨#[c]⟩ w
  have hz46 := Jv.pre_size h46
  have hr0 : (r.extract 1 r.size).size ≤ r.size := by rw [ByteArray.size_extract]; omega
  have hd1 := Jv.dg_size (r.extract 1 r.size)
  have hD1 := Tryz.digits_any (r.extract 1 r.size) (by omega)
  rw [hpart, hr2] at hD1 hd1
  have hr5 : r2.size ≤ 5000 := by omega
  clear hpart hr2 hd1 hr0
  have hz1 := Jv.pre_size e69
  have ht1 : (r2.extract 1 r2.size).size ≤ r2.size := by rw [ByteArray.size_extract]; omega
  have hz2 := Jv.pre_size s43
  have ht2 : ((r2.extract 1 r2.size).extract 1 (r2.extract 1 r2.size).size).size ≤ (r2.extract 1 r2.size).size := by rw [ByteArray.size_extract]; omega
  have hD2 := Tryz.digits_any ((r2.extract 1 r2.size).extract 1 (r2.extract 1 r2.size).size) (by omega)
  have HX : Hid (isNumber s = num3 part (dg1 ((r2.extract 1 r2.size).extract 1 (r2.extract 1 r2.size).size)) (dg2 ((r2.extract 1 r2.size).extract 1 (r2.extract 1 r2.size).size))) := HM.out.trans (by unfold num2; rw [if_pos (Or.inr e69)]; exact if_pos (Or.inl s43))
  generalize dg1 ((r2.extract 1 r2.size).extract 1 (r2.extract 1 r2.size).size) = power at *
  generalize dg2 ((r2.extract 1 r2.size).extract 1 (r2.extract 1 r2.size).size) = rest at *
  have e0sz : (r2.extract 1 r2.size).size = r2.size - 1 := by rw [ByteArray.size_extract]; omega
  rw [e0sz] at hD2 hz2
  have hz3 : (2 : Int) ≤ r2.size := by omega
  clear HM ht1 ht2 hz2 e0sz
  rcases hc with hc | ⟨hc, hc2⟩
  · skip
    by_cases hp : part.toList.isEmpty = true
    · have Hp' : Hid (part = emp) := (Jv.emp_iff part).2 hp
      go_enter Tryz.func121, Tryz.ntmps121
      go_wp2_with (first | (go_at_call 153; refine (hTP _).mono ?_; rintro e9 w9 ⟨rfl, rfl⟩) | (go_at_call 139; refine (hHP _ _ _).mono ?_; rintro e9 w9 ⟨rfl, rfl⟩) | (go_at_call 152; first | (refine (hD0 _).mono ?_; clear hD0; rintro e9 w1 ⟨rfl, hb1⟩) | (refine (hD1 _).mono ?_; clear hD1; rintro e9 w2 ⟨rfl, hb2⟩; replace hb1 := hb1.trans (hb2.mono hb1.size)) | (refine (hD2 _).mono ?_; clear hD2; rintro e9 w3 ⟨rfl, hb3⟩; replace hb1 := hb1.trans (hb3.mono hb1.size))) | fail)
      go_ret
      exact ⟨Jv.ret_bool (by rw [HX.out]; unfold num3; symm; simp [Hp'.out]), hb1⟩
    · have hp' : ¬ part = emp := fun h => hp ((Jv.emp_iff part).1 h)
      have hp1 : part.toList.isEmpty = false := by simpa using hp
      clear hp
      by_cases hq : power.toList.isEmpty = true
      · have Hq' : Hid (power = emp) := (Jv.emp_iff power).2 hq
        go_enter Tryz.func121, Tryz.ntmps121
        go_wp2_with (first | (go_at_call 153; refine (hTP _).mono ?_; rintro e9 w9 ⟨rfl, rfl⟩) | (go_at_call 139; refine (hHP _ _ _).mono ?_; rintro e9 w9 ⟨rfl, rfl⟩) | (go_at_call 152; first | (refine (hD0 _).mono ?_; clear hD0; rintro e9 w1 ⟨rfl, hb1⟩) | (refine (hD1 _).mono ?_; clear hD1; rintro e9 w2 ⟨rfl, hb2⟩; replace hb1 := hb1.trans (hb2.mono hb1.size)) | (refine (hD2 _).mono ?_; clear hD2; rintro e9 w3 ⟨rfl, hb3⟩; replace hb1 := hb1.trans (hb3.mono hb1.size))) | fail)
        go_ret
        exact ⟨Jv.ret_bool (by rw [HX.out]; unfold num3; symm; simp [hp', Hq'.out]), hb1⟩
      · have hq' : ¬ power = emp := fun h => hq ((Jv.emp_iff power).1 h)
        have hq1 : power.toList.isEmpty = false := by simpa using hq
        clear hq
        by_cases hr : rest.toList.isEmpty = true
        · have Hr' : Hid (rest = emp) := (Jv.emp_iff rest).2 hr
          go_enter Tryz.func121, Tryz.ntmps121
          go_wp2_with (first | (go_at_call 153; refine (hTP _).mono ?_; rintro e9 w9 ⟨rfl, rfl⟩) | (go_at_call 139; refine (hHP _ _ _).mono ?_; rintro e9 w9 ⟨rfl, rfl⟩) | (go_at_call 152; first | (refine (hD0 _).mono ?_; clear hD0; rintro e9 w1 ⟨rfl, hb1⟩) | (refine (hD1 _).mono ?_; clear hD1; rintro e9 w2 ⟨rfl, hb2⟩; replace hb1 := hb1.trans (hb2.mono hb1.size)) | (refine (hD2 _).mono ?_; clear hD2; rintro e9 w3 ⟨rfl, hb3⟩; replace hb1 := hb1.trans (hb3.mono hb1.size))) | fail)
          go_ret
          exact ⟨Jv.ret_bool (by rw [HX.out]; unfold num3; symm; simp [hp', hq', Hr'.out]), hb1⟩
        · have hr' : ¬ rest = emp := fun h => hr ((Jv.emp_iff rest).1 h)
          have hr1 : rest.toList.isEmpty = false := by simpa using hr
          clear hr
          go_enter Tryz.func121, Tryz.ntmps121
          go_wp2_with (first | (go_at_call 153; refine (hTP _).mono ?_; rintro e9 w9 ⟨rfl, rfl⟩) | (go_at_call 139; refine (hHP _ _ _).mono ?_; rintro e9 w9 ⟨rfl, rfl⟩) | (go_at_call 152; first | (refine (hD0 _).mono ?_; clear hD0; rintro e9 w1 ⟨rfl, hb1⟩) | (refine (hD1 _).mono ?_; clear hD1; rintro e9 w2 ⟨rfl, hb2⟩; replace hb1 := hb1.trans (hb2.mono hb1.size)) | (refine (hD2 _).mono ?_; clear hD2; rintro e9 w3 ⟨rfl, hb3⟩; replace hb1 := hb1.trans (hb3.mono hb1.size))) | fail)
          go_ret
          exact ⟨Jv.ret_bool (by rw [HX.out]; unfold num3; symm; simp [hp', hq', hr']), hb1⟩
  · skip
    by_cases hp : part.toList.isEmpty = true
    · have Hp' : Hid (part = emp) := (Jv.emp_iff part).2 hp
      go_enter Tryz.func121, Tryz.ntmps121
      go_wp2_with (first | (go_at_call 153; refine (hTP _).mono ?_; rintro e9 w9 ⟨rfl, rfl⟩) | (go_at_call 139; refine (hHP _ _ _).mono ?_; rintro e9 w9 ⟨rfl, rfl⟩) | (go_at_call 152; first | (refine (hD0 _).mono ?_; clear hD0; rintro e9 w1 ⟨rfl, hb1⟩) | (refine (hD1 _).mono ?_; clear hD1; rintro e9 w2 ⟨rfl, hb2⟩; replace hb1 := hb1.trans (hb2.mono hb1.size)) | (refine (hD2 _).mono ?_; clear hD2; rintro e9 w3 ⟨rfl, hb3⟩; replace hb1 := hb1.trans (hb3.mono hb1.size))) | fail)
      go_ret
      exact ⟨Jv.ret_bool (by rw [HX.out]; unfold num3; symm; simp [Hp'.out]), hb1⟩
    · have hp' : ¬ part = emp := fun h => hp ((Jv.emp_iff part).1 h)
      have hp1 : part.toList.isEmpty = false := by simpa using hp
      clear hp
      by_cases hq : power.toList.isEmpty = true
      · have Hq' : Hid (power = emp) := (Jv.emp_iff power).2 hq
        go_enter Tryz.func121, Tryz.ntmps121
        go_wp2_with (first | (go_at_call 153; refine (hTP _).mono ?_; rintro e9 w9 ⟨rfl, rfl⟩) | (go_at_call 139; refine (hHP _ _ _).mono ?_; rintro e9 w9 ⟨rfl, rfl⟩) | (go_at_call 152; first | (refine (hD0 _).mono ?_; clear hD0; rintro e9 w1 ⟨rfl, hb1⟩) | (refine (hD1 _).mono ?_; clear hD1; rintro e9 w2 ⟨rfl, hb2⟩; replace hb1 := hb1.trans (hb2.mono hb1.size)) | (refine (hD2 _).mono ?_; clear hD2; rintro e9 w3 ⟨rfl, hb3⟩; replace hb1 := hb1.trans (hb3.mono hb1.size))) | fail)
        go_ret
        exact ⟨Jv.ret_bool (by rw [HX.out]; unfold num3; symm; simp [hp', Hq'.out]), hb1⟩
      · have hq' : ¬ power = emp := fun h => hq ((Jv.emp_iff power).1 h)
        have hq1 : power.toList.isEmpty = false := by simpa using hq
        clear hq
        by_cases hr : rest.toList.isEmpty = true
        · have Hr' : Hid (rest = emp) := (Jv.emp_iff rest).2 hr
          go_enter Tryz.func121, Tryz.ntmps121
          go_wp2_with (first | (go_at_call 153; refine (hTP _).mono ?_; rintro e9 w9 ⟨rfl, rfl⟩) | (go_at_call 139; refine (hHP _ _ _).mono ?_; rintro e9 w9 ⟨rfl, rfl⟩) | (go_at_call 152; first | (refine (hD0 _).mono ?_; clear hD0; rintro e9 w1 ⟨rfl, hb1⟩) | (refine (hD1 _).mono ?_; clear hD1; rintro e9 w2 ⟨rfl, hb2⟩; replace hb1 := hb1.trans (hb2.mono hb1.size)) | (refine (hD2 _).mono ?_; clear hD2; rintro e9 w3 ⟨rfl, hb3⟩; replace hb1 := hb1.trans (hb3.mono hb1.size))) | fail)
          go_ret
          exact ⟨Jv.ret_bool (by rw [HX.out]; unfold num3; symm; simp [hp', hq', Hr'.out]), hb1⟩
        · have hr' : ¬ rest = emp := fun h => hr ((Jv.emp_iff rest).1 h)
          have hr1 : rest.toList.isEmpty = false := by simpa using hr
          clear hr
          go_enter Tryz.func121, Tryz.ntmps121
          go_wp2_with (first | (go_at_call 153; refine (hTP _).mono ?_; rintro e9 w9 ⟨rfl, rfl⟩) | (go_at_call 139; refine (hHP _ _ _).mono ?_; rintro e9 w9 ⟨rfl, rfl⟩) | (go_at_call 152; first | (refine (hD0 _).mono ?_; clear hD0; rintro e9 w1 ⟨rfl, hb1⟩) | (refine (hD1 _).mono ?_; clear hD1; rintro e9 w2 ⟨rfl, hb2⟩; replace hb1 := hb1.trans (hb2.mono hb1.size)) | (refine (hD2 _).mono ?_; clear hD2; rintro e9 w3 ⟨rfl, hb3⟩; replace hb1 := hb1.trans (hb3.mono hb1.size))) | fail)
          go_ret
          exact ⟨Jv.ret_bool (by rw [HX.out]; unfold num3; symm; simp [hp', hq', hr']), hb1⟩
set_option maxHeartbeats 4000000 in
theorem Tryz.num_dE45 (s a r : ByteArray) (_hs : s.size ≤ 5000) (w : World) (hae : a.toList.isEmpty = false) (hD0 : ∀ w, Calls Tryz.prog 152 #[.string (trim s)] w fun e w' => e = .returned (.tuple #[.string a, .string r]) ∧ Below w.heap.size w w') (hrs : r.size ≤ 5000) (h0 : 0 < a.size) (x0 : UInt8) (hg : a[0]'h0 = x0) (hc : (a.size : Int) ≤ 1 ∨ ((1 < (a.size : Int)) ∧ ((x0.toNat : Int) == 48) = false)) (h46 : pre r 46 = true) (part r2 : ByteArray) (hpart : dg1 (r.extract 1 r.size) = part) (hr2 : dg2 (r.extract 1 r.size) = r2) (m101 : pre r2 101 = false) (e69 : pre r2 69 = true) (n43 : pre (r2.extract 1 r2.size) 43 = false) (s45 : pre (r2.extract 1 r2.size) 45 = true) (HM : Hid (isNumber s = num2 part r2)) :
    Calls Tryz.prog 121 #[.string s] w fun e w' => e = .returned (.bool (isNumber s)) ∧ Below w.heap.size w w' := by
  have hTP : ∀ w, Calls Tryz.prog 153 #[.string s, .string ⟨#[45]⟩] w fun e w' => e = .returned (.string (trim s)) ∧ w' = w := fun w => Tryz.strings_TrimPrefix s ⟨#[45]⟩ w
  have hHP : ∀ x c w, Calls Tryz.prog 139 #[.string x, .string ⟨#[c]⟩] w fun e w' => e = .returned (.bool (pre x c)) ∧ w' = w := fun x c w => Tryz.strings_HasPrefix x ⟨#[c]⟩ w
  have hz46 := Jv.pre_size h46
  have hr0 : (r.extract 1 r.size).size ≤ r.size := by rw [ByteArray.size_extract]; omega
  have hd1 := Jv.dg_size (r.extract 1 r.size)
  have hD1 := Tryz.digits_any (r.extract 1 r.size) (by omega)
  rw [hpart, hr2] at hD1 hd1
  have hr5 : r2.size ≤ 5000 := by omega
  clear hpart hr2 hd1 hr0
  have hz1 := Jv.pre_size e69
  have ht1 : (r2.extract 1 r2.size).size ≤ r2.size := by rw [ByteArray.size_extract]; omega
  have hz2 := Jv.pre_size s45
  have ht2 : ((r2.extract 1 r2.size).extract 1 (r2.extract 1 r2.size).size).size ≤ (r2.extract 1 r2.size).size := by rw [ByteArray.size_extract]; omega
  have hD2 := Tryz.digits_any ((r2.extract 1 r2.size).extract 1 (r2.extract 1 r2.size).size) (by omega)
  have HX : Hid (isNumber s = num3 part (dg1 ((r2.extract 1 r2.size).extract 1 (r2.extract 1 r2.size).size)) (dg2 ((r2.extract 1 r2.size).extract 1 (r2.extract 1 r2.size).size))) := HM.out.trans (by unfold num2; rw [if_pos (Or.inr e69)]; exact if_pos (Or.inr s45))
  generalize dg1 ((r2.extract 1 r2.size).extract 1 (r2.extract 1 r2.size).size) = power at *
  generalize dg2 ((r2.extract 1 r2.size).extract 1 (r2.extract 1 r2.size).size) = rest at *
  have e0sz : (r2.extract 1 r2.size).size = r2.size - 1 := by rw [ByteArray.size_extract]; omega
  rw [e0sz] at hD2 hz2
  have hz3 : (2 : Int) ≤ r2.size := by omega
  clear HM ht1 ht2 hz2 e0sz
  rcases hc with hc | ⟨hc, hc2⟩
  · skip
    by_cases hp : part.toList.isEmpty = true
    · have Hp' : Hid (part = emp) := (Jv.emp_iff part).2 hp
      go_enter Tryz.func121, Tryz.ntmps121
      go_wp2_with (first | (go_at_call 153; refine (hTP _).mono ?_; rintro e9 w9 ⟨rfl, rfl⟩) | (go_at_call 139; refine (hHP _ _ _).mono ?_; rintro e9 w9 ⟨rfl, rfl⟩) | (go_at_call 152; first | (refine (hD0 _).mono ?_; clear hD0; rintro e9 w1 ⟨rfl, hb1⟩) | (refine (hD1 _).mono ?_; clear hD1; rintro e9 w2 ⟨rfl, hb2⟩; replace hb1 := hb1.trans (hb2.mono hb1.size)) | (refine (hD2 _).mono ?_; clear hD2; rintro e9 w3 ⟨rfl, hb3⟩; replace hb1 := hb1.trans (hb3.mono hb1.size))) | fail)
      go_ret
      exact ⟨Jv.ret_bool (by rw [HX.out]; unfold num3; symm; simp [Hp'.out]), hb1⟩
    · have hp' : ¬ part = emp := fun h => hp ((Jv.emp_iff part).1 h)
      have hp1 : part.toList.isEmpty = false := by simpa using hp
      clear hp
      by_cases hq : power.toList.isEmpty = true
      · have Hq' : Hid (power = emp) := (Jv.emp_iff power).2 hq
        go_enter Tryz.func121, Tryz.ntmps121
        go_wp2_with (first | (go_at_call 153; refine (hTP _).mono ?_; rintro e9 w9 ⟨rfl, rfl⟩) | (go_at_call 139; refine (hHP _ _ _).mono ?_; rintro e9 w9 ⟨rfl, rfl⟩) | (go_at_call 152; first | (refine (hD0 _).mono ?_; clear hD0; rintro e9 w1 ⟨rfl, hb1⟩) | (refine (hD1 _).mono ?_; clear hD1; rintro e9 w2 ⟨rfl, hb2⟩; replace hb1 := hb1.trans (hb2.mono hb1.size)) | (refine (hD2 _).mono ?_; clear hD2; rintro e9 w3 ⟨rfl, hb3⟩; replace hb1 := hb1.trans (hb3.mono hb1.size))) | fail)
        go_ret
        exact ⟨Jv.ret_bool (by rw [HX.out]; unfold num3; symm; simp [hp', Hq'.out]), hb1⟩
      · have hq' : ¬ power = emp := fun h => hq ((Jv.emp_iff power).1 h)
        have hq1 : power.toList.isEmpty = false := by simpa using hq
        clear hq
        by_cases hr : rest.toList.isEmpty = true
        · have Hr' : Hid (rest = emp) := (Jv.emp_iff rest).2 hr
          go_enter Tryz.func121, Tryz.ntmps121
          go_wp2_with (first | (go_at_call 153; refine (hTP _).mono ?_; rintro e9 w9 ⟨rfl, rfl⟩) | (go_at_call 139; refine (hHP _ _ _).mono ?_; rintro e9 w9 ⟨rfl, rfl⟩) | (go_at_call 152; first | (refine (hD0 _).mono ?_; clear hD0; rintro e9 w1 ⟨rfl, hb1⟩) | (refine (hD1 _).mono ?_; clear hD1; rintro e9 w2 ⟨rfl, hb2⟩; replace hb1 := hb1.trans (hb2.mono hb1.size)) | (refine (hD2 _).mono ?_; clear hD2; rintro e9 w3 ⟨rfl, hb3⟩; replace hb1 := hb1.trans (hb3.mono hb1.size))) | fail)
          go_ret
          exact ⟨Jv.ret_bool (by rw [HX.out]; unfold num3; symm; simp [hp', hq', Hr'.out]), hb1⟩
        · have hr' : ¬ rest = emp := fun h => hr ((Jv.emp_iff rest).1 h)
          have hr1 : rest.toList.isEmpty = false := by simpa using hr
          clear hr
          go_enter Tryz.func121, Tryz.ntmps121
          go_wp2_with (first | (go_at_call 153; refine (hTP _).mono ?_; rintro e9 w9 ⟨rfl, rfl⟩) | (go_at_call 139; refine (hHP _ _ _).mono ?_; rintro e9 w9 ⟨rfl, rfl⟩) | (go_at_call 152; first | (refine (hD0 _).mono ?_; clear hD0; rintro e9 w1 ⟨rfl, hb1⟩) | (refine (hD1 _).mono ?_; clear hD1; rintro e9 w2 ⟨rfl, hb2⟩; replace hb1 := hb1.trans (hb2.mono hb1.size)) | (refine (hD2 _).mono ?_; clear hD2; rintro e9 w3 ⟨rfl, hb3⟩; replace hb1 := hb1.trans (hb3.mono hb1.size))) | fail)
          go_ret
          exact ⟨Jv.ret_bool (by rw [HX.out]; unfold num3; symm; simp [hp', hq', hr']), hb1⟩
  · skip
    by_cases hp : part.toList.isEmpty = true
    · have Hp' : Hid (part = emp) := (Jv.emp_iff part).2 hp
      go_enter Tryz.func121, Tryz.ntmps121
      go_wp2_with (first | (go_at_call 153; refine (hTP _).mono ?_; rintro e9 w9 ⟨rfl, rfl⟩) | (go_at_call 139; refine (hHP _ _ _).mono ?_; rintro e9 w9 ⟨rfl, rfl⟩) | (go_at_call 152; first | (refine (hD0 _).mono ?_; clear hD0; rintro e9 w1 ⟨rfl, hb1⟩) | (refine (hD1 _).mono ?_; clear hD1; rintro e9 w2 ⟨rfl, hb2⟩; replace hb1 := hb1.trans (hb2.mono hb1.size)) | (refine (hD2 _).mono ?_; clear hD2; rintro e9 w3 ⟨rfl, hb3⟩; replace hb1 := hb1.trans (hb3.mono hb1.size))) | fail)
      go_ret
      exact ⟨Jv.ret_bool (by rw [HX.out]; unfold num3; symm; simp [Hp'.out]), hb1⟩
    · have hp' : ¬ part = emp := fun h => hp ((Jv.emp_iff part).1 h)
      have hp1 : part.toList.isEmpty = false := by simpa using hp
      clear hp
      by_cases hq : power.toList.isEmpty = true
      · have Hq' : Hid (power = emp) := (Jv.emp_iff power).2 hq
        go_enter Tryz.func121, Tryz.ntmps121
        go_wp2_with (first | (go_at_call 153; refine (hTP _).mono ?_; rintro e9 w9 ⟨rfl, rfl⟩) | (go_at_call 139; refine (hHP _ _ _).mono ?_; rintro e9 w9 ⟨rfl, rfl⟩) | (go_at_call 152; first | (refine (hD0 _).mono ?_; clear hD0; rintro e9 w1 ⟨rfl, hb1⟩) | (refine (hD1 _).mono ?_; clear hD1; rintro e9 w2 ⟨rfl, hb2⟩; replace hb1 := hb1.trans (hb2.mono hb1.size)) | (refine (hD2 _).mono ?_; clear hD2; rintro e9 w3 ⟨rfl, hb3⟩; replace hb1 := hb1.trans (hb3.mono hb1.size))) | fail)
        go_ret
        exact ⟨Jv.ret_bool (by rw [HX.out]; unfold num3; symm; simp [hp', Hq'.out]), hb1⟩
      · have hq' : ¬ power = emp := fun h => hq ((Jv.emp_iff power).1 h)
        have hq1 : power.toList.isEmpty = false := by simpa using hq
        clear hq
        by_cases hr : rest.toList.isEmpty = true
        · have Hr' : Hid (rest = emp) := (Jv.emp_iff rest).2 hr
          go_enter Tryz.func121, Tryz.ntmps121
          go_wp2_with (first | (go_at_call 153; refine (hTP _).mono ?_; rintro e9 w9 ⟨rfl, rfl⟩) | (go_at_call 139; refine (hHP _ _ _).mono ?_; rintro e9 w9 ⟨rfl, rfl⟩) | (go_at_call 152; first | (refine (hD0 _).mono ?_; clear hD0; rintro e9 w1 ⟨rfl, hb1⟩) | (refine (hD1 _).mono ?_; clear hD1; rintro e9 w2 ⟨rfl, hb2⟩; replace hb1 := hb1.trans (hb2.mono hb1.size)) | (refine (hD2 _).mono ?_; clear hD2; rintro e9 w3 ⟨rfl, hb3⟩; replace hb1 := hb1.trans (hb3.mono hb1.size))) | fail)
          go_ret
          exact ⟨Jv.ret_bool (by rw [HX.out]; unfold num3; symm; simp [hp', hq', Hr'.out]), hb1⟩
        · have hr' : ¬ rest = emp := fun h => hr ((Jv.emp_iff rest).1 h)
          have hr1 : rest.toList.isEmpty = false := by simpa using hr
          clear hr
          go_enter Tryz.func121, Tryz.ntmps121
          go_wp2_with (first | (go_at_call 153; refine (hTP _).mono ?_; rintro e9 w9 ⟨rfl, rfl⟩) | (go_at_call 139; refine (hHP _ _ _).mono ?_; rintro e9 w9 ⟨rfl, rfl⟩) | (go_at_call 152; first | (refine (hD0 _).mono ?_; clear hD0; rintro e9 w1 ⟨rfl, hb1⟩) | (refine (hD1 _).mono ?_; clear hD1; rintro e9 w2 ⟨rfl, hb2⟩; replace hb1 := hb1.trans (hb2.mono hb1.size)) | (refine (hD2 _).mono ?_; clear hD2; rintro e9 w3 ⟨rfl, hb3⟩; replace hb1 := hb1.trans (hb3.mono hb1.size))) | fail)
          go_ret
          exact ⟨Jv.ret_bool (by rw [HX.out]; unfold num3; symm; simp [hp', hq', hr']), hb1⟩
set_option maxHeartbeats 4000000 in
theorem Tryz.num_dE (s a r : ByteArray) (_hs : s.size ≤ 5000) (w : World) (hae : a.toList.isEmpty = false) (hD0 : ∀ w, Calls Tryz.prog 152 #[.string (trim s)] w fun e w' => e = .returned (.tuple #[.string a, .string r]) ∧ Below w.heap.size w w') (hrs : r.size ≤ 5000) (h0 : 0 < a.size) (x0 : UInt8) (hg : a[0]'h0 = x0) (hc : (a.size : Int) ≤ 1 ∨ ((1 < (a.size : Int)) ∧ ((x0.toNat : Int) == 48) = false)) (h46 : pre r 46 = true) (part r2 : ByteArray) (hpart : dg1 (r.extract 1 r.size) = part) (hr2 : dg2 (r.extract 1 r.size) = r2) (m101 : pre r2 101 = false) (e69 : pre r2 69 = true) (n43 : pre (r2.extract 1 r2.size) 43 = false) (n45 : pre (r2.extract 1 r2.size) 45 = false) (HM : Hid (isNumber s = num2 part r2)) :
    Calls Tryz.prog 121 #[.string s] w fun e w' => e = .returned (.bool (isNumber s)) ∧ Below w.heap.size w w' := by
  have hTP : ∀ w, Calls Tryz.prog 153 #[.string s, .string ⟨#[45]⟩] w fun e w' => e = .returned (.string (trim s)) ∧ w' = w := fun w => Tryz.strings_TrimPrefix s ⟨#[45]⟩ w
  have hHP : ∀ x c w, Calls Tryz.prog 139 #[.string x, .string ⟨#[c]⟩] w fun e w' => e = .returned (.bool (pre x c)) ∧ w' = w := fun x c w => Tryz.strings_HasPrefix x ⟨#[c]⟩ w
  have hz46 := Jv.pre_size h46
  have hr0 : (r.extract 1 r.size).size ≤ r.size := by rw [ByteArray.size_extract]; omega
  have hd1 := Jv.dg_size (r.extract 1 r.size)
  have hD1 := Tryz.digits_any (r.extract 1 r.size) (by omega)
  rw [hpart, hr2] at hD1 hd1
  have hr5 : r2.size ≤ 5000 := by omega
  clear hpart hr2 hd1 hr0
  have hz1 := Jv.pre_size e69
  have ht1 : (r2.extract 1 r2.size).size ≤ r2.size := by rw [ByteArray.size_extract]; omega
  have hD2 := Tryz.digits_any (r2.extract 1 r2.size) (by omega)
  have HX : Hid (isNumber s = num3 part (dg1 (r2.extract 1 r2.size)) (dg2 (r2.extract 1 r2.size))) := HM.out.trans (by unfold num2; rw [if_pos (Or.inr e69)]; exact if_neg (by unfold tail1; rw [n43, n45]; simp))
  generalize dg1 (r2.extract 1 r2.size) = power at *
  generalize dg2 (r2.extract 1 r2.size) = rest at *
  clear HM ht1
  rcases hc with hc | ⟨hc, hc2⟩
  · skip
    by_cases hp : part.toList.isEmpty = true
    · have Hp' : Hid (part = emp) := (Jv.emp_iff part).2 hp
      go_enter Tryz.func121, Tryz.ntmps121
      go_wp2_with (first | (go_at_call 153; refine (hTP _).mono ?_; rintro e9 w9 ⟨rfl, rfl⟩) | (go_at_call 139; refine (hHP _ _ _).mono ?_; rintro e9 w9 ⟨rfl, rfl⟩) | (go_at_call 152; first | (refine (hD0 _).mono ?_; clear hD0; rintro e9 w1 ⟨rfl, hb1⟩) | (refine (hD1 _).mono ?_; clear hD1; rintro e9 w2 ⟨rfl, hb2⟩; replace hb1 := hb1.trans (hb2.mono hb1.size)) | (refine (hD2 _).mono ?_; clear hD2; rintro e9 w3 ⟨rfl, hb3⟩; replace hb1 := hb1.trans (hb3.mono hb1.size))) | fail)
      go_ret
      exact ⟨Jv.ret_bool (by rw [HX.out]; unfold num3; symm; simp [Hp'.out]), hb1⟩
    · have hp' : ¬ part = emp := fun h => hp ((Jv.emp_iff part).1 h)
      have hp1 : part.toList.isEmpty = false := by simpa using hp
      clear hp
      by_cases hq : power.toList.isEmpty = true
      · have Hq' : Hid (power = emp) := (Jv.emp_iff power).2 hq
        go_enter Tryz.func121, Tryz.ntmps121
        go_wp2_with (first | (go_at_call 153; refine (hTP _).mono ?_; rintro e9 w9 ⟨rfl, rfl⟩) | (go_at_call 139; refine (hHP _ _ _).mono ?_; rintro e9 w9 ⟨rfl, rfl⟩) | (go_at_call 152; first | (refine (hD0 _).mono ?_; clear hD0; rintro e9 w1 ⟨rfl, hb1⟩) | (refine (hD1 _).mono ?_; clear hD1; rintro e9 w2 ⟨rfl, hb2⟩; replace hb1 := hb1.trans (hb2.mono hb1.size)) | (refine (hD2 _).mono ?_; clear hD2; rintro e9 w3 ⟨rfl, hb3⟩; replace hb1 := hb1.trans (hb3.mono hb1.size))) | fail)
        go_ret
        exact ⟨Jv.ret_bool (by rw [HX.out]; unfold num3; symm; simp [hp', Hq'.out]), hb1⟩
      · have hq' : ¬ power = emp := fun h => hq ((Jv.emp_iff power).1 h)
        have hq1 : power.toList.isEmpty = false := by simpa using hq
        clear hq
        by_cases hr : rest.toList.isEmpty = true
        · have Hr' : Hid (rest = emp) := (Jv.emp_iff rest).2 hr
          go_enter Tryz.func121, Tryz.ntmps121
          go_wp2_with (first | (go_at_call 153; refine (hTP _).mono ?_; rintro e9 w9 ⟨rfl, rfl⟩) | (go_at_call 139; refine (hHP _ _ _).mono ?_; rintro e9 w9 ⟨rfl, rfl⟩) | (go_at_call 152; first | (refine (hD0 _).mono ?_; clear hD0; rintro e9 w1 ⟨rfl, hb1⟩) | (refine (hD1 _).mono ?_; clear hD1; rintro e9 w2 ⟨rfl, hb2⟩; replace hb1 := hb1.trans (hb2.mono hb1.size)) | (refine (hD2 _).mono ?_; clear hD2; rintro e9 w3 ⟨rfl, hb3⟩; replace hb1 := hb1.trans (hb3.mono hb1.size))) | fail)
          go_ret
          exact ⟨Jv.ret_bool (by rw [HX.out]; unfold num3; symm; simp [hp', hq', Hr'.out]), hb1⟩
        · have hr' : ¬ rest = emp := fun h => hr ((Jv.emp_iff rest).1 h)
          have hr1 : rest.toList.isEmpty = false := by simpa using hr
          clear hr
          go_enter Tryz.func121, Tryz.ntmps121
          go_wp2_with (first | (go_at_call 153; refine (hTP _).mono ?_; rintro e9 w9 ⟨rfl, rfl⟩) | (go_at_call 139; refine (hHP _ _ _).mono ?_; rintro e9 w9 ⟨rfl, rfl⟩) | (go_at_call 152; first | (refine (hD0 _).mono ?_; clear hD0; rintro e9 w1 ⟨rfl, hb1⟩) | (refine (hD1 _).mono ?_; clear hD1; rintro e9 w2 ⟨rfl, hb2⟩; replace hb1 := hb1.trans (hb2.mono hb1.size)) | (refine (hD2 _).mono ?_; clear hD2; rintro e9 w3 ⟨rfl, hb3⟩; replace hb1 := hb1.trans (hb3.mono hb1.size))) | fail)
          go_ret
          exact ⟨Jv.ret_bool (by rw [HX.out]; unfold num3; symm; simp [hp', hq', hr']), hb1⟩
  · skip
    by_cases hp : part.toList.isEmpty = true
    · have Hp' : Hid (part = emp) := (Jv.emp_iff part).2 hp
      go_enter Tryz.func121, Tryz.ntmps121
      go_wp2_with (first | (go_at_call 153; refine (hTP _).mono ?_; rintro e9 w9 ⟨rfl, rfl⟩) | (go_at_call 139; refine (hHP _ _ _).mono ?_; rintro e9 w9 ⟨rfl, rfl⟩) | (go_at_call 152; first | (refine (hD0 _).mono ?_; clear hD0; rintro e9 w1 ⟨rfl, hb1⟩) | (refine (hD1 _).mono ?_; clear hD1; rintro e9 w2 ⟨rfl, hb2⟩; replace hb1 := hb1.trans (hb2.mono hb1.size)) | (refine (hD2 _).mono ?_; clear hD2; rintro e9 w3 ⟨rfl, hb3⟩; replace hb1 := hb1.trans (hb3.mono hb1.size))) | fail)
      go_ret
      exact ⟨Jv.ret_bool (by rw [HX.out]; unfold num3; symm; simp [Hp'.out]), hb1⟩
    · have hp' : ¬ part = emp := fun h => hp ((Jv.emp_iff part).1 h)
      have hp1 : part.toList.isEmpty = false := by simpa using hp
      clear hp
      by_cases hq : power.toList.isEmpty = true
      · have Hq' : Hid (power = emp) := (Jv.emp_iff power).2 hq
        go_enter Tryz.func121, Tryz.ntmps121
        go_wp2_with (first | (go_at_call 153; refine (hTP _).mono ?_; rintro e9 w9 ⟨rfl, rfl⟩) | (go_at_call 139; refine (hHP _ _ _).mono ?_; rintro e9 w9 ⟨rfl, rfl⟩) | (go_at_call 152; first | (refine (hD0 _).mono ?_; clear hD0; rintro e9 w1 ⟨rfl, hb1⟩) | (refine (hD1 _).mono ?_; clear hD1; rintro e9 w2 ⟨rfl, hb2⟩; replace hb1 := hb1.trans (hb2.mono hb1.size)) | (refine (hD2 _).mono ?_; clear hD2; rintro e9 w3 ⟨rfl, hb3⟩; replace hb1 := hb1.trans (hb3.mono hb1.size))) | fail)
        go_ret
        exact ⟨Jv.ret_bool (by rw [HX.out]; unfold num3; symm; simp [hp', Hq'.out]), hb1⟩
      · have hq' : ¬ power = emp := fun h => hq ((Jv.emp_iff power).1 h)
        have hq1 : power.toList.isEmpty = false := by simpa using hq
        clear hq
        by_cases hr : rest.toList.isEmpty = true
        · have Hr' : Hid (rest = emp) := (Jv.emp_iff rest).2 hr
          go_enter Tryz.func121, Tryz.ntmps121
          go_wp2_with (first | (go_at_call 153; refine (hTP _).mono ?_; rintro e9 w9 ⟨rfl, rfl⟩) | (go_at_call 139; refine (hHP _ _ _).mono ?_; rintro e9 w9 ⟨rfl, rfl⟩) | (go_at_call 152; first | (refine (hD0 _).mono ?_; clear hD0; rintro e9 w1 ⟨rfl, hb1⟩) | (refine (hD1 _).mono ?_; clear hD1; rintro e9 w2 ⟨rfl, hb2⟩; replace hb1 := hb1.trans (hb2.mono hb1.size)) | (refine (hD2 _).mono ?_; clear hD2; rintro e9 w3 ⟨rfl, hb3⟩; replace hb1 := hb1.trans (hb3.mono hb1.size))) | fail)
          go_ret
          exact ⟨Jv.ret_bool (by rw [HX.out]; unfold num3; symm; simp [hp', hq', Hr'.out]), hb1⟩
        · have hr' : ¬ rest = emp := fun h => hr ((Jv.emp_iff rest).1 h)
          have hr1 : rest.toList.isEmpty = false := by simpa using hr
          clear hr
          go_enter Tryz.func121, Tryz.ntmps121
          go_wp2_with (first | (go_at_call 153; refine (hTP _).mono ?_; rintro e9 w9 ⟨rfl, rfl⟩) | (go_at_call 139; refine (hHP _ _ _).mono ?_; rintro e9 w9 ⟨rfl, rfl⟩) | (go_at_call 152; first | (refine (hD0 _).mono ?_; clear hD0; rintro e9 w1 ⟨rfl, hb1⟩) | (refine (hD1 _).mono ?_; clear hD1; rintro e9 w2 ⟨rfl, hb2⟩; replace hb1 := hb1.trans (hb2.mono hb1.size)) | (refine (hD2 _).mono ?_; clear hD2; rintro e9 w3 ⟨rfl, hb3⟩; replace hb1 := hb1.trans (hb3.mono hb1.size))) | fail)
          go_ret
          exact ⟨Jv.ret_bool (by rw [HX.out]; unfold num3; symm; simp [hp', hq', hr']), hb1⟩
end Go.Proofs
