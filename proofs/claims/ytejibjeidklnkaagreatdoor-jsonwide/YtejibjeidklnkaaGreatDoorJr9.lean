/-
  'digits', 'isNumber'.
-/
import Derived.Test.YtejibjeidklnkaaGreatDoorJr8
import Derived.Shelf.Strings.SlTrimAscii
import Derived.Deep.DeepCutAuto
namespace Go.Proofs
open Go.RowKit Go.Jv
theorem Tryz.trimDigits (s : ByteArray) (w : World) :
    Calls Tryz.prog 72 #[.string s, .string ⟨#[48, 49, 50, 51, 52, 53, 54, 55, 56, 57]⟩] w fun e w' => e = .returned (.string (dg2 s)) ∧ Below w.heap.size w w' := by
  have h := Any.strings_TrimLeft_laid Tryz.lays161 (by kernel_rfl) s ⟨#[48, 49, 50, 51, 52, 53, 54, 55, 56, 57]⟩ w (by decide) (fun j b hb => by
    have : b ∈ ([48, 49, 50, 51, 52, 53, 54, 55, 56, 57] : List UInt8) := List.mem_of_getElem? hb
    revert this
    simp only [List.mem_cons, List.not_mem_nil, or_false]
    rintro (rfl | rfl | rfl | rfl | rfl | rfl | rfl | rfl | rfl | rfl) <;> decide)
  have e : Lib.trimLeftS s.data.toList [48, 49, 50, 51, 52, 53, 54, 55, 56, 57] = s.data.toList.dropWhile isDigit := by
    unfold Lib.trimLeftS
    congr 1
    funext c
    have hd : ∀ n : Fin 256, ([48, 49, 50, 51, 52, 53, 54, 55, 56, 57] : List UInt8).contains (UInt8.ofNat n) = isDigit (UInt8.ofNat n) := by decide +kernel
    have := hd ⟨c.toNat, c.toNat_lt⟩
    simpa using this
  unfold dg2
  rw [← e]
  exact h
theorem Jv.dg_size (s : ByteArray) : (dg1 s).size + (dg2 s).size = s.size := by
  have h := congrArg List.length (List.takeWhile_append_dropWhile (p := isDigit) (l := s.data.toList))
  rw [List.length_append] at h
  have e1 : (dg1 s).size = (s.data.toList.takeWhile isDigit).length := by simp [dg1, ByteArray.size]
  have e2 : (dg2 s).size = (s.data.toList.dropWhile isDigit).length := by simp [dg2, ByteArray.size]
  have e3 : s.size = s.data.toList.length := by rw [Array.length_toList]; rfl
  omega
theorem Jv.dg1_eq (s : ByteArray) (k : Nat) (h : k = (dg1 s).size) : s.extract 0 k = dg1 s := by
  subst h
  apply ByteArray.ext
  rw [ByteArray.data_extract]
  apply Array.ext'
  have h := List.takeWhile_append_dropWhile (p := isDigit) (l := s.data.toList)
  have e : (dg1 s).size = (s.data.toList.takeWhile isDigit).length := by simp [dg1, ByteArray.size]
  rw [e]
  simp only [Array.toList_extract, List.extract_eq_take_drop, List.drop_zero, Nat.sub_zero, dg1]
  have h5 : List.take (s.data.toList.takeWhile isDigit).length (s.data.toList.takeWhile isDigit ++ s.data.toList.dropWhile isDigit) = s.data.toList.takeWhile isDigit := List.take_left
  rw [h] at h5
  exact h5
theorem Jv.ret_str2 {a b c : ByteArray} (h : a = b) : Ending.returned (.tuple #[.string a, .string c]) = .returned (.tuple #[.string b, .string c]) := by rw [h]
theorem Jv.ret_str {a b : ByteArray} (h : a = b) : Ending.returned (.string a) = .returned (.string b) := by rw [h]
theorem Tryz.digits_any (s : ByteArray) (hs : s.size ≤ 5000) (w : World) :
    Calls Tryz.prog 53 #[.string s] w fun e w' => e = .returned (.tuple #[.string (dg1 s), .string (dg2 s)]) ∧ Below w.heap.size w w' := by
  have h1 := Jv.dg_size s
  have h2 := Jv.dg1_eq s
  have H2 : Hid (∀ k, k = (dg1 s).size → s.extract 0 k = dg1 s) := h2
  have H1 : Hid ((dg1 s).size + (dg2 s).size = s.size) := h1
  have h3 : (dg2 s).size ≤ s.size := by omega
  clear h1 h2
  go_enter Tryz.func53, Tryz.ntmps53
  go_wp2_with (first | (go_at_call 72; refine (Tryz.trimDigits _ _).mono ?_; rintro e w1 ⟨rfl, hb1⟩) | fail)
  go_ret2
  exact ⟨Jv.ret_str2 (H2.out _ (by have := H1.out; omega)), hb1⟩
theorem Jv.emp_iff (x : ByteArray) : x = emp ↔ x.toList.isEmpty = true := by
  constructor
  · rintro rfl; rw [ByteArray.toList_eq]; rfl
  · intro h
    have h1 : x.toList = [] := List.isEmpty_iff.1 h
    rw [ByteArray.toList_eq] at h1
    obtain ⟨x⟩ := x; cases x with | mk l => simp at h1; subst h1; rfl
theorem Jv.pre_size {x : ByteArray} {c : UInt8} (h : pre x c = true) : (1 : Int) ≤ x.size := by
  have e3 : x.size = x.data.toList.length := by rw [Array.length_toList]; rfl
  unfold pre Lib.hasPrefix at h
  cases hl : x.data.toList with
  | nil => rw [hl] at h; simp at h
  | cons a l => rw [hl] at e3; simp at e3; omega
theorem Jv.trim_size (s : ByteArray) : (trim s).size ≤ s.size := by
  have e : (trim s).size = (Lib.trimPrefix s.data.toList [45]).length := by simp [trim, ByteArray.size]
  have e3 : s.size = s.data.toList.length := by rw [Array.length_toList]; rfl
  rw [e, e3]
  unfold Lib.trimPrefix
  split
  · simp
  · exact Nat.le_refl _
end Go.Proofs
