/-
  Reason, lastOf, lengthOf, headSize.
-/
import Derived.Test.YtflnijbedicbhaaGreatDoorYj
import Derived.Lib.AppendIntMem
namespace Go.Wb
open Go.RowKit Go.Proofs
def reason (n : Int) : List UInt8 :=
  if n = 200 then [79, 75] else
  if n = 201 then [67, 114, 101, 97, 116, 101, 100] else
  if n = 204 then [78, 111, 32, 67, 111, 110, 116, 101, 110, 116] else
  if n = 304 then [78, 111, 116, 32, 77, 111, 100, 105, 102, 105, 101, 100] else
  if n = 400 then [66, 97, 100, 32, 82, 101, 113, 117, 101, 115, 116] else
  if n = 401 then [85, 110, 97, 117, 116, 104, 111, 114, 105, 122, 101, 100] else
  if n = 403 then [70, 111, 114, 98, 105, 100, 100, 101, 110] else
  if n = 404 then [78, 111, 116, 32, 70, 111, 117, 110, 100] else
  if n = 405 then [77, 101, 116, 104, 111, 100, 32, 78, 111, 116, 32, 65, 108, 108, 111, 119, 101, 100] else
  if n = 408 then [82, 101, 113, 117, 101, 115, 116, 32, 84, 105, 109, 101, 111, 117, 116] else
  if n = 409 then [67, 111, 110, 102, 108, 105, 99, 116] else
  if n = 410 then [71, 111, 110, 101] else
  if n = 411 then [76, 101, 110, 103, 116, 104, 32, 82, 101, 113, 117, 105, 114, 101, 100] else
  if n = 413 then [67, 111, 110, 116, 101, 110, 116, 32, 84, 111, 111, 32, 76, 97, 114, 103, 101] else
  if n = 414 then [85, 82, 73, 32, 84, 111, 111, 32, 76, 111, 110, 103] else
  if n = 415 then [85, 110, 115, 117, 112, 112, 111, 114, 116, 101, 100, 32, 77, 101, 100, 105, 97, 32, 84, 121, 112, 101] else
  if n = 422 then [85, 110, 112, 114, 111, 99, 101, 115, 115, 97, 98, 108, 101, 32, 67, 111, 110, 116, 101, 110, 116] else
  if n = 429 then [84, 111, 111, 32, 77, 97, 110, 121, 32, 82, 101, 113, 117, 101, 115, 116, 115] else
  if n = 431 then [82, 101, 113, 117, 101, 115, 116, 32, 72, 101, 97, 100, 101, 114, 32, 70, 105, 101, 108, 100, 115, 32, 84, 111, 111, 32, 76, 97, 114, 103, 101] else
  if n = 500 then [73, 110, 116, 101, 114, 110, 97, 108, 32, 83, 101, 114, 118, 101, 114, 32, 69, 114, 114, 111, 114] else
  if n = 501 then [78, 111, 116, 32, 73, 109, 112, 108, 101, 109, 101, 110, 116, 101, 100] else
  if n = 503 then [83, 101, 114, 118, 105, 99, 101, 32, 85, 110, 97, 118, 97, 105, 108, 97, 98, 108, 101] else
  if n = 505 then [72, 84, 84, 80, 32, 86, 101, 114, 115, 105, 111, 110, 32, 78, 111, 116, 32, 83, 117, 112, 112, 111, 114, 116, 101, 100] else
  if n = 507 then [73, 110, 115, 117, 102, 102, 105, 99, 105, 101, 110, 116, 32, 83, 116, 111, 114, 97, 103, 101] else
  [79, 116, 104, 101, 114]
def headSize (l : List UInt8) (L : List (List UInt8 × List UInt8)) : Nat := l.length + 4 + (L.map fun h => h.1.length + h.2.length + 4).sum
theorem sum_next {L : List (List UInt8 × List UInt8)} {f : List UInt8 × List UInt8 → Nat} {i : Nat} (hi : i < L.length) : ((L.take (i + 1)).map f).sum = ((L.take i).map f).sum + f L[i] := by
  rw [List.take_add_one, List.getElem?_eq_getElem hi, List.map_append, List.sum_append]
  simp
theorem sum_bound {L : List (List UInt8 × List UInt8)} {f : List UInt8 × List UInt8 → Nat} {m : Nat} (h : ∀ x ∈ L, f x ≤ m) : (L.map f).sum ≤ L.length * m := by
  induction L with
  | nil => simp
  | cons a l ih =>
    have h1 := h a (by simp)
    have h2 := ih fun x hx => h x (List.mem_cons_of_mem _ hx)
    rw [List.map_cons, List.sum_cons, List.length_cons, Nat.succ_mul]
    omega
end Go.Wb
namespace Go.Proofs
open Go.RowKit Go.Wi Go.Wb
set_option maxRecDepth 20000 in
set_option maxHeartbeats 2000000 in
theorem Tryz.reason_any (n : Int) (w : World) : Calls Tryz.prog 27 #[.int .i64 n] w fun e w' => e = .returned (.string ⟨(reason n).toArray⟩) ∧ w' = w := by
  unfold reason
  by_cases h200 : n = 200
  · subst h200
    go_enter Tryz.func27, Tryz.ntmps27
    go_wp2
    go_ret
    exact ⟨rfl, rfl⟩
  rw [if_neg h200]
  have b200 : (n == 200) = false := by simpa using h200
  clear h200
  by_cases h201 : n = 201
  · subst h201
    go_enter Tryz.func27, Tryz.ntmps27
    go_wp2
    go_ret
    exact ⟨rfl, rfl⟩
  rw [if_neg h201]
  have b201 : (n == 201) = false := by simpa using h201
  clear h201
  by_cases h204 : n = 204
  · subst h204
    go_enter Tryz.func27, Tryz.ntmps27
    go_wp2
    go_ret
    exact ⟨rfl, rfl⟩
  rw [if_neg h204]
  have b204 : (n == 204) = false := by simpa using h204
  clear h204
  by_cases h304 : n = 304
  · subst h304
    go_enter Tryz.func27, Tryz.ntmps27
    go_wp2
    go_ret
    exact ⟨rfl, rfl⟩
  rw [if_neg h304]
  have b304 : (n == 304) = false := by simpa using h304
  clear h304
  by_cases h400 : n = 400
  · subst h400
    go_enter Tryz.func27, Tryz.ntmps27
    go_wp2
    go_ret
    exact ⟨rfl, rfl⟩
  rw [if_neg h400]
  have b400 : (n == 400) = false := by simpa using h400
  clear h400
  by_cases h401 : n = 401
  · subst h401
    go_enter Tryz.func27, Tryz.ntmps27
    go_wp2
    go_ret
    exact ⟨rfl, rfl⟩
  rw [if_neg h401]
  have b401 : (n == 401) = false := by simpa using h401
  clear h401
  by_cases h403 : n = 403
  · subst h403
    go_enter Tryz.func27, Tryz.ntmps27
    go_wp2
    go_ret
    exact ⟨rfl, rfl⟩
  rw [if_neg h403]
  have b403 : (n == 403) = false := by simpa using h403
  clear h403
  by_cases h404 : n = 404
  · subst h404
    go_enter Tryz.func27, Tryz.ntmps27
    go_wp2
    go_ret
    exact ⟨rfl, rfl⟩
  rw [if_neg h404]
  have b404 : (n == 404) = false := by simpa using h404
  clear h404
  by_cases h405 : n = 405
  · subst h405
    go_enter Tryz.func27, Tryz.ntmps27
    go_wp2
    go_ret
    exact ⟨rfl, rfl⟩
  rw [if_neg h405]
  have b405 : (n == 405) = false := by simpa using h405
  clear h405
  by_cases h408 : n = 408
  · subst h408
    go_enter Tryz.func27, Tryz.ntmps27
    go_wp2
    go_ret
    exact ⟨rfl, rfl⟩
  rw [if_neg h408]
  have b408 : (n == 408) = false := by simpa using h408
  clear h408
  by_cases h409 : n = 409
  · subst h409
    go_enter Tryz.func27, Tryz.ntmps27
    go_wp2
    go_ret
    exact ⟨rfl, rfl⟩
  rw [if_neg h409]
  have b409 : (n == 409) = false := by simpa using h409
  clear h409
  by_cases h410 : n = 410
  · subst h410
    go_enter Tryz.func27, Tryz.ntmps27
    go_wp2
    go_ret
    exact ⟨rfl, rfl⟩
  rw [if_neg h410]
  have b410 : (n == 410) = false := by simpa using h410
  clear h410
  by_cases h411 : n = 411
  · subst h411
    go_enter Tryz.func27, Tryz.ntmps27
    go_wp2
    go_ret
    exact ⟨rfl, rfl⟩
  rw [if_neg h411]
  have b411 : (n == 411) = false := by simpa using h411
  clear h411
  by_cases h413 : n = 413
  · subst h413
    go_enter Tryz.func27, Tryz.ntmps27
    go_wp2
    go_ret
    exact ⟨rfl, rfl⟩
  rw [if_neg h413]
  have b413 : (n == 413) = false := by simpa using h413
  clear h413
  by_cases h414 : n = 414
  · subst h414
    go_enter Tryz.func27, Tryz.ntmps27
    go_wp2
    go_ret
    exact ⟨rfl, rfl⟩
  rw [if_neg h414]
  have b414 : (n == 414) = false := by simpa using h414
  clear h414
  by_cases h415 : n = 415
  · subst h415
    go_enter Tryz.func27, Tryz.ntmps27
    go_wp2
    go_ret
    exact ⟨rfl, rfl⟩
  rw [if_neg h415]
  have b415 : (n == 415) = false := by simpa using h415
  clear h415
  by_cases h422 : n = 422
  · subst h422
    go_enter Tryz.func27, Tryz.ntmps27
    go_wp2
    go_ret
    exact ⟨rfl, rfl⟩
  rw [if_neg h422]
  have b422 : (n == 422) = false := by simpa using h422
  clear h422
  by_cases h429 : n = 429
  · subst h429
    go_enter Tryz.func27, Tryz.ntmps27
    go_wp2
    go_ret
    exact ⟨rfl, rfl⟩
  rw [if_neg h429]
  have b429 : (n == 429) = false := by simpa using h429
  clear h429
  by_cases h431 : n = 431
  · subst h431
    go_enter Tryz.func27, Tryz.ntmps27
    go_wp2
    go_ret
    exact ⟨rfl, rfl⟩
  rw [if_neg h431]
  have b431 : (n == 431) = false := by simpa using h431
  clear h431
  by_cases h500 : n = 500
  · subst h500
    go_enter Tryz.func27, Tryz.ntmps27
    go_wp2
    go_ret
    exact ⟨rfl, rfl⟩
  rw [if_neg h500]
  have b500 : (n == 500) = false := by simpa using h500
  clear h500
  by_cases h501 : n = 501
  · subst h501
    go_enter Tryz.func27, Tryz.ntmps27
    go_wp2
    go_ret
    exact ⟨rfl, rfl⟩
  rw [if_neg h501]
  have b501 : (n == 501) = false := by simpa using h501
  clear h501
  by_cases h503 : n = 503
  · subst h503
    go_enter Tryz.func27, Tryz.ntmps27
    go_wp2
    go_ret
    exact ⟨rfl, rfl⟩
  rw [if_neg h503]
  have b503 : (n == 503) = false := by simpa using h503
  clear h503
  by_cases h505 : n = 505
  · subst h505
    go_enter Tryz.func27, Tryz.ntmps27
    go_wp2
    go_ret
    exact ⟨rfl, rfl⟩
  rw [if_neg h505]
  have b505 : (n == 505) = false := by simpa using h505
  clear h505
  by_cases h507 : n = 507
  · subst h507
    go_enter Tryz.func27, Tryz.ntmps27
    go_wp2
    go_ret
    exact ⟨rfl, rfl⟩
  rw [if_neg h507]
  have b507 : (n == 507) = false := by simpa using h507
  clear h507
  go_enter Tryz.func27, Tryz.ntmps27
  go_wp2
  go_ret
  exact ⟨rfl, rfl⟩
end Go.Proofs
