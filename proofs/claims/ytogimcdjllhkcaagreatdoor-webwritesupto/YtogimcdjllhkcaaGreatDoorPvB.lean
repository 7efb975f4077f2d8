/-
  Laid together by packg.py of WwF WwG WwL WwH.
-/
import Derived.Test.YtogimcdjllhkcaaGreatDoorPvA
import Derived.Test.YtogimcdjllhkcaaGreatDoorPvY
import Derived.Test.YtogimcdjllhkcaaGreatDoorPvH
import Derived.Deep.CutBlock
import Derived.ArgAppend
import Derived.Shelf.Bytes.SlSmallAll
namespace Go.Wb
open Go.RowKit Go.Proofs Go.Wi
/-- What PrintRequest answers: a text and a number. -/
def rqAns (dec : Int → List UInt8) (meth tg : List UInt8) (L : List (List UInt8 × List UInt8)) (body : List UInt8) (last : Bool) : List UInt8 × Int :=
  if okReq meth tg L = true then
    if 6000 < body.length then ([], 182)
    else if (rqHeads dec L body last).length ≤ 32 ∧ headSize (rqLine meth tg) (rqHeads dec L body last) ≤ 2048 then (printedT (rqLine meth tg) (rqHeads dec L body last) body, 0) else ([], 181)
  else ([], 180)
theorem Hs.one (w : World) (T : TypeId) (a b : List UInt8) : Hs (w.alloc (.cells #[.string ⟨a.toArray⟩, .string ⟨b.toArray⟩] T)) (.slice (some ⟨w.heap.size, 0, none⟩) 1 1) [(a, b)] := by
  have hn := heap_alloc_new w (.cells #[.string ⟨a.toArray⟩, .string ⟨b.toArray⟩] T)
  refine ⟨⟨_, _, rfl, .inr ⟨_, 0, rfl, block_lt hn, fun j hj => ?_⟩⟩, .inr ⟨_, _, _, rfl⟩⟩
  obtain rfl : j = 0 := by simp at hj; omega
  exact ⟨by rw [cell_of_row _ _ _ _ _ _ hn]; rfl, by rw [cell_of_row _ _ _ _ _ _ hn]; rfl⟩
theorem row_past {w w' : World} {B : Nat} {e : TypeId} {size : Nat} {v : Value} {n : Nat} {xs : List Value} (h : w.ownsRow B e size v n xs) (g : Below w.heap.size w w') : w'.ownsRow B e size v n xs := row_keep h fun k e => g.block k (h.lt k e).2
theorem catLine (a b h : List UInt8) : (⟨a.toArray⟩ : ByteArray) ++ ⟨#[32]⟩ ++ ⟨b.toArray⟩ ++ ⟨#[32, 72, 84, 84, 80, 47, 49, 46, 49, 13, 10]⟩ ++ ⟨h.toArray⟩ ++ ⟨#[13, 10]⟩ = ⟨(rqLine a b ++ [13, 10] ++ h ++ [13, 10]).toArray⟩ := by
  apply ByteArray.ext
  simp [ByteArray.data_append, rqLine, wNewer]
theorem head_len (line : List UInt8) (H : List (List UInt8 × List UInt8)) : (line ++ [13, 10] ++ headText H ++ [13, 10]).length = headSize line H := by
  unfold headSize
  rw [List.length_append, List.length_append, List.length_append, headText_len]
  simp only [List.length_cons, List.length_nil]
  omega
end Go.Wb
namespace Go.Proofs
open Go.RowKit Go.Wi Go.Wb
set_option maxRecDepth 20000 in
set_option maxHeartbeats 2000000 in
theorem Tryz.rPrintRequest_no {w : World} {V Y : Value} {L : List (List UInt8 × List UInt8)} {body : List UInt8} (meth tg : List UInt8) (last : Bool) (hV : Hs w V L) (hY : Bs w Y body) (hm : meth.length ≤ 140737488355328) (htg : tg.length ≤ 140737488355328) (hl : ∀ x ∈ L, x.1.length ≤ 140737488355328 ∧ x.2.length ≤ 140737488355328) (hL : L.length ≤ 4398046511000) (hno : okReq meth tg L = false) :
    Calls Tryz.prog 7 #[.agg #[.string ⟨meth.toArray⟩, .string ⟨tg.toArray⟩, V, Y, .bool last]] w fun e w' => e = .returned (.tuple #[.string ⟨#[]⟩, .int .i64 180]) ∧ Below w.heap.size w w' := by
  obtain ⟨adV, capV, eV, -⟩ := hV.ex
  subst eV
  obtain ⟨adY, capY, eY, -⟩ := hY.ex
  subst eY
  have hA : Below w.heap.size w (w.alloc (.cells #[.string ⟨meth.toArray⟩, .string ⟨tg.toArray⟩, .slice adV L.length capV, .slice adY body.length capY, .bool last] 28)) := (Below.refl _ w).alloc (Nat.le_refl _) _
  have kf := Tryz.rFine_any (hV.below hA) (by omega) hl
  have k1 := Tryz.rIsToken_any meth (by omega) false
  have k2 := Tryz.rIsTarget_any tg (by omega)
  rw [okTok_false] at k1
  have hno2 : (isTok meth && isTgt tg && mayStand L && decide (countOf L wHost ≤ 1)) = false := hno
  have HH : Hid (mayStand L = true → hostsOf L = countOf L wHost) := fun e => hostsOf_yes e
  have hcl : countOf L wHost ≤ L.length := by have := count_le L wHost L.length; rw [List.take_length] at this; exact this
  have hcl2 : hostsOf L ≤ L.length := by unfold hostsOf; split <;> omega
  have HA : Hid _ := hA
  clear hA hV hY hl hno
  generalize isTok meth = b1 at *
  generalize isTgt tg = b2 at *
  generalize mayStand L = b3 at *
  generalize hostsOf L = nh at *
  generalize countOf L wHost = n at *
  cases b1 with
  | false =>
    go_enter Tryz.func7, Tryz.ntmps7
    go_wp2_with (first
      | (go_at_call 25; refine kf.mono ?_; clear kf; rintro e w1 ⟨rfl, rfl⟩)
      | (go_at_call 26; refine (k1 _).mono ?_; rintro e w2 ⟨rfl, rfl⟩)
      | (go_at_call 27; refine (k2 _).mono ?_; rintro e w2 ⟨rfl, rfl⟩)
      | fail)
    go_ret2
    exact ⟨rfl, HA.out⟩
  | true =>
  cases b2 with
  | false =>
    go_enter Tryz.func7, Tryz.ntmps7
    go_wp2_with (first
      | (go_at_call 25; refine kf.mono ?_; clear kf; rintro e w1 ⟨rfl, rfl⟩)
      | (go_at_call 26; refine (k1 _).mono ?_; rintro e w2 ⟨rfl, rfl⟩)
      | (go_at_call 27; refine (k2 _).mono ?_; rintro e w2 ⟨rfl, rfl⟩)
      | fail)
    go_ret2
    exact ⟨rfl, HA.out⟩
  | true =>
  cases b3 with
  | false =>
    go_enter Tryz.func7, Tryz.ntmps7
    go_wp2_with (first
      | (go_at_call 25; refine kf.mono ?_; clear kf; rintro e w1 ⟨rfl, rfl⟩)
      | (go_at_call 26; refine (k1 _).mono ?_; rintro e w2 ⟨rfl, rfl⟩)
      | (go_at_call 27; refine (k2 _).mono ?_; rintro e w2 ⟨rfl, rfl⟩)
      | fail)
    go_ret2
    exact ⟨rfl, HA.out⟩
  | true =>
    have hn : ¬ n ≤ 1 := by simpa using hno2
    have hnn := HH.out rfl
    have qn : (nh : Int) > 1 := by omega
    clear HH hnn hn hno2
    go_enter Tryz.func7, Tryz.ntmps7
    go_wp2_with (first
      | (go_at_call 25; refine kf.mono ?_; clear kf; rintro e w1 ⟨rfl, rfl⟩)
      | (go_at_call 26; refine (k1 _).mono ?_; rintro e w2 ⟨rfl, rfl⟩)
      | (go_at_call 27; refine (k2 _).mono ?_; rintro e w2 ⟨rfl, rfl⟩)
      | fail)
    go_ret2
    exact ⟨rfl, HA.out⟩
set_option maxRecDepth 20000 in
set_option maxHeartbeats 4000000 in
theorem Tryz.rPrintRequest_ok {w : World} {V Y : Value} {L : List (List UInt8 × List UInt8)} {body : List UInt8} (meth tg : List UInt8) (last : Bool) (hV : Hs w V L) (hY : Bs w Y body) (hYl : ∀ k, Y.ownBlock = some k → k < w.heap.size) (hm : meth.length ≤ 140737488355328) (htg : tg.length ≤ 140737488355328) (hl : ∀ x ∈ L, x.1.length ≤ 140737488355328 ∧ x.2.length ≤ 140737488355328) (hL : L.length ≤ 4398046511000) (hb0 : body.length ≤ 140737488355328) (hT : (headText (rqHeads Lib.itoa L body last)).length ≤ 140737488355328) (hyes : okReq meth tg L = true) :
    Calls Tryz.prog 7 #[.agg #[.string ⟨meth.toArray⟩, .string ⟨tg.toArray⟩, V, Y, .bool last]] w fun e w' => e = .returned (.tuple #[.string ⟨(rqAns Lib.itoa meth tg L body last).1.toArray⟩, .int .i64 (rqAns Lib.itoa meth tg L body last).2]) ∧ Below w.heap.size w w' := by
  obtain ⟨adV, capV, eV, -⟩ := hV.ex
  subst eV
  obtain ⟨adY, capY, eY, -⟩ := hY.ex
  subst eY
  have hA : Below w.heap.size w (w.alloc (.cells #[.string ⟨meth.toArray⟩, .string ⟨tg.toArray⟩, .slice adV L.length capV, .slice adY body.length capY, .bool last] 28)) := (Below.refl _ w).alloc (Nat.le_refl _) _
  have hsz : (w.alloc (.cells #[.string ⟨meth.toArray⟩, .string ⟨tg.toArray⟩, .slice adV L.length capV, .slice adY body.length capY, .bool last] 28)).heap.size = w.heap.size + 1 := by simp
  have kf := Tryz.rFine_any (hV.below hA) (by omega) hl
  have k1 := Tryz.rIsToken_any meth (by omega) false
  have k2 := Tryz.rIsTarget_any tg (by omega)
  rw [okTok_false] at k1
  have hn0 := hyes
  unfold okReq at hn0
  simp only [Bool.and_eq_true, decide_eq_true_eq] at hn0
  obtain ⟨⟨⟨e1, e2⟩, e3⟩, e4⟩ := hn0
  rw [e1] at k1
  rw [e2] at k2
  rw [e3, hostsOf_yes e3] at kf
  have HANS : Hid (rqAns Lib.itoa meth tg L body last = if 6000 < body.length then ([], 182) else if (rqHeads Lib.itoa L body last).length ≤ 32 ∧ headSize (rqLine meth tg) (rqHeads Lib.itoa L body last) ≤ 2048 then (printedT (rqLine meth tg) (rqHeads Lib.itoa L body last) body, 0) else ([], 181)) := (by show _ = _; unfold rqAns; rw [if_pos hyes])
  have qn : ¬ ((countOf L wHost : Nat) : Int) > 1 := by omega
  have HHOST : Hid (hostH L = if countOf L wHost = 0 then [(wHost, sHome)] else []) := rfl
  have HBODY : Hid (bodyH Lib.itoa body = if body = [] then [] else [(sCL, Lib.itoa body.length)]) := rfl
  have HC : Hid (∀ W, Below (w.heap.size + 1) (w.alloc (.cells #[.string ⟨meth.toArray⟩, .string ⟨tg.toArray⟩, .slice adV L.length capV, .slice adY body.length capY, .bool last] 28)) W → W.cell? ⟨w.heap.size, 0, none⟩ = some (.string ⟨meth.toArray⟩) ∧ W.cell? ⟨w.heap.size, 1, none⟩ = some (.string ⟨tg.toArray⟩) ∧ W.cell? ⟨w.heap.size, 2, none⟩ = some (.slice adV L.length capV) ∧ W.cell? ⟨w.heap.size, 3, none⟩ = some (.slice adY body.length capY) ∧ W.cell? ⟨w.heap.size, 4, none⟩ = some (.bool last)) := fun W hW => by
    have hn := heap_alloc_new w (.cells #[.string ⟨meth.toArray⟩, .string ⟨tg.toArray⟩, .slice adV L.length capV, .slice adY body.length capY, .bool last] 28)
    exact ⟨(hW.cell (p := ⟨w.heap.size, 0, none⟩) (Nat.lt_succ_self _)).trans (cell_of_row _ _ 0 _ _ _ hn), (hW.cell (p := ⟨w.heap.size, 1, none⟩) (Nat.lt_succ_self _)).trans (cell_of_row _ _ 1 _ _ _ hn), (hW.cell (p := ⟨w.heap.size, 2, none⟩) (Nat.lt_succ_self _)).trans (cell_of_row _ _ 2 _ _ _ hn), (hW.cell (p := ⟨w.heap.size, 3, none⟩) (Nat.lt_succ_self _)).trans (cell_of_row _ _ 3 _ _ _ hn), (hW.cell (p := ⟨w.heap.size, 4, none⟩) (Nat.lt_succ_self _)).trans (cell_of_row _ _ 4 _ _ _ hn)⟩
  have HV : Hid (Hs w (.slice adV L.length capV) L) := hV
  have HY : Hid (∀ W, Below w.heap.size w W → Bs W (.slice adY body.length capY) body) := fun W hW => hY.below hW hYl
  have HA : Hid _ := hA
  have HS : Hid _ := hsz
  have HT : Hid _ := hT
  clear hA hsz hV hY hYl hl hyes e1 e2 e3 hT
  by_cases hbig : 6000 < body.length
  · have qb : (body.length : Int) > 6000 := by omega
    rw [if_pos hbig] at HANS
    clear hbig HHOST HBODY
    go_enter Tryz.func7, Tryz.ntmps7
    go_wp2_with (first
      | (go_at_call 25; refine kf.mono ?_; clear kf; rintro e w1 ⟨rfl, rfl⟩)
      | (go_at_call 26; refine (k1 _).mono ?_; rintro e w2 ⟨rfl, rfl⟩)
      | (go_at_call 27; refine (k2 _).mono ?_; rintro e w2 ⟨rfl, rfl⟩)
      | fail)
    go_ret2
    exact ⟨by rw [HANS.out]; rfl, HA.out⟩
  · have qb : ¬ (body.length : Int) > 6000 := by omega
    rw [if_neg hbig] at HANS
    go_enter Tryz.func7, Tryz.ntmps7
    go_upto_if 41 with (first
      | (go_at_call 25; refine kf.mono ?_; clear kf; rintro e w1 ⟨rfl, rfl⟩)
      | (go_at_call 26; refine (k1 _).mono ?_; rintro e w2 ⟨rfl, rfl⟩)
      | (go_at_call 27; refine (k2 _).mono ?_; rintro e w2 ⟨rfl, rfl⟩)
      | fail)
    generalize hW0 : w.alloc _ = W0 at *
    have HBB : Hid (w.heap.size + 1 = W0.heap.size) := HS.out.symm
    clear hW0 HS k1 k2
    have HB0 : Hid (∀ W, Below (w.heap.size + 1) W0 W → Below w.heap.size w W) := fun W hW => HA.out.trans (hW.mono (Nat.le_succ _))
    obtain ⟨B, hB⟩ : ∃ B, w.heap.size + 1 = B := ⟨_, rfl⟩
    rw [hB] at HC HBB HB0
    have HBe : Hid (w.heap.size + 1 = B) := hB
    clear hB
    go_cut [8] (fun fv wx => ∃ ad cap, fv = .slice ad (hostH L).length cap ∧ wx.ownsRow B 52 2 fv (hostH L).length (hdCells (hostH L)) ∧ Below B W0 wx)
    case first =>
      have h1 : Hs (W0.alloc (.cells #[.string ⟨#[104, 111, 115, 116]⟩, .string ⟨#[104, 111, 109, 101]⟩] 52)) (.slice (some ⟨W0.heap.size, 0, none⟩) 1 1) [(wHost, sHome)] := Hs.one W0 _ wHost sHome
      have HZ : Hid (B ≤ (W0.alloc (.cells #[.string ⟨#[104, 111, 115, 116]⟩, .string ⟨#[104, 111, 109, 101]⟩] 52)).heap.size) := (by have := HBB.out; show _ ≤ _; simp; omega)
      have HG : Hid (Below B W0 (W0.alloc (.cells #[.string ⟨#[104, 111, 115, 116]⟩, .string ⟨#[104, 111, 109, 101]⟩] 52))) := (Below.refl _ W0).alloc (by rw [HBB.out]; exact Nat.le_refl _) _
      go_wp2_with (first
        | (at_builtin; refine Tryz.appHs rfl _ _ rfl (L0 := []) (World.ownsRow_nil _ _ _ _) HZ.out rfl h1 rfl (by simp) ?_; intro v1 w1 r1 b1)
        | fail)
      · go_meet
        have hz : countOf L wHost = 0 := by
          have h1 : (((countOf L wHost : Nat) : Int) == 0) = true := (by assumption)
          have h2 : ((countOf L wHost : Nat) : Int) = 0 := by simpa using h1
          omega
        have e : hostH L = [(wHost, sHome)] := by rw [HHOST.out, if_pos hz]
        rw [e]
        obtain ⟨ad, cap, e2, -⟩ := (Hs.ofRow r1).ex
        exact ⟨ad, cap, e2, r1, HG.out.trans b1⟩
      · go_meet
        have hz : ¬ countOf L wHost = 0 := by
          have h1 : (((countOf L wHost : Nat) : Int) == 0) = false := (by assumption)
          have h2 : ¬ ((countOf L wHost : Nat) : Int) = 0 := by simpa using h1
          omega
        have e : hostH L = [] := by rw [HHOST.out, if_neg hz]
        rw [e]
        exact ⟨_, _, rfl, World.ownsRow_nil _ _ _ _, Below.refl _ _⟩
    case rest =>
      obtain ⟨ad8, cap8, rfl, r8, b8⟩ := hcut
      obtain ⟨c0, c1, c2, c3, c4⟩ := HC.out wc b8
      have hV8 := HV.out.below (HB0.out wc b8)
      have HZ8 : Hid (B ≤ wc.heap.size) := (by have := b8.size; rw [← HBB.out] at this; exact this)
      have hlh : (hostH L).length ≤ 1 := by rw [HHOST.out]; split <;> simp
      have HL8 : Hid ((hostH L).length + L.length ≤ 4398046511104) := (by show _ ≤ _; omega)
      have HR8 : Hid _ := r8
      have HB8 : Hid _ := b8
      have HV8 : Hid _ := hV8
      clear r8 b8 hV8
      go_upto_if 53 with (first
        | (at_builtin; refine Tryz.appHs rfl _ _ rfl HR8.out HZ8.out rfl HV8.out rfl HL8.out ?_; intro v9 w9 r9 b9; have b9' := HB8.out.trans b9; obtain ⟨d0, d1, d2, d3, d4⟩ := HC.out w9 b9'; obtain ⟨ad9, cap9, e9, -⟩ := (Hs.ofRow r9).ex; rw [List.length_append] at e9; subst e9)
        | fail)
      have HZ9 : Hid (B ≤ w9.heap.size) := (by have := b9'.size; rw [← HBB.out] at this; exact this)
      have HR9 : Hid _ := r9
      have HB9 : Hid (Below B W0 w9) := b9'
      clear r9 b9 b9' c0 c1 c2 c3 c4 HR8 HB8 HV8 HZ8
      have kd := Tryz.rDigits_any body.length (by omega)
      have HL9 : Hid ((hostH L).length + L.length + 1 ≤ 4398046511104) := (by show _ ≤ _; omega)
      go_cut [8] (fun fv wx => ∃ ad cap, fv = .slice ad (hostH L ++ L ++ bodyH Lib.itoa body).length cap ∧ wx.ownsRow B 52 2 fv (hostH L ++ L ++ bodyH Lib.itoa body).length (hdCells (hostH L ++ L ++ bodyH Lib.itoa body)) ∧ Below B W0 wx)
      case first =>
        by_cases hz : body = []
        · have e : bodyH Lib.itoa body = [] := by rw [HBODY.out, if_pos hz]
          have q0 : ¬ (body.length : Int) > 0 := by rw [hz]; simp
          have HE : Hid (bodyH Lib.itoa body = []) := e
          clear e hz
          go_wp2
          go_meet
          rw [HE.out, List.append_nil]
          rw [List.length_append]
          exact ⟨_, _, rfl, HR9.out, HB9.out⟩
        · have e : bodyH Lib.itoa body = [(sCL, Lib.itoa body.length)] := by rw [HBODY.out, if_neg hz]
          have hp : 0 < body.length := List.length_pos_iff.2 hz
          have q0 : (body.length : Int) > 0 := by omega
          have HE : Hid (bodyH Lib.itoa body = [(sCL, Lib.itoa body.length)]) := e
          clear e hz HBODY HHOST
          go_wp2_with (first
            | (go_at_call 28; refine (kd _).mono ?_; clear kd; rintro e w10 ⟨rfl, b10⟩; have h1 : Hs (w10.alloc (.cells #[.string ⟨#[99, 111, 110, 116, 101, 110, 116, 45, 108, 101, 110, 103, 116, 104]⟩, .string ⟨(Lib.itoa body.length).toArray⟩] 52)) (.slice (some ⟨w10.heap.size, 0, none⟩) 1 1) [(sCL, Lib.itoa body.length)] := Hs.one w10 _ sCL _; have hG : Below w10.heap.size w10 (w10.alloc (.cells #[.string ⟨#[99, 111, 110, 116, 101, 110, 116, 45, 108, 101, 110, 103, 116, 104]⟩, .string ⟨(Lib.itoa body.length).toArray⟩] 52)) := (Below.refl _ w10).alloc (Nat.le_refl _) _; have b11 := b10.trans (hG.mono b10.size); have HB11 : Hid _ := HB9.out.trans (b11.mono HZ9.out); have HR11 : Hid _ := row_past HR9.out b11; have HZ11 : Hid _ := Nat.le_trans HZ9.out b11.size; clear b10 hG b11)
            | (at_builtin; refine Tryz.appHs rfl _ _ rfl HR11.out HZ11.out rfl h1 rfl (by simpa using HL9.out) ?_; intro v12 w12 r12 b12)
            | fail)
          go_meet
          rw [HE.out]
          obtain ⟨ad, cap, e2, -⟩ := (Hs.ofRow r12).ex
          refine ⟨ad, cap, e2, ?_, HB11.out.trans b12⟩
          rw [← List.length_append, ← List.length_append] at r12
          exact r12
      case rest =>
        obtain ⟨ad10, cap10, rfl, r10, b10⟩ := hcut
        have hlb : (bodyH Lib.itoa body).length ≤ 1 := by rw [HBODY.out]; split <;> simp
        have HX : Hid (hostH L ++ L ++ bodyH Lib.itoa body ++ (if last then [(sCo, wClose)] else []) = rqHeads Lib.itoa L body last) := rfl
        have HHL : Hid ((rqHeads Lib.itoa L body last).length ≤ 4398046511104) := (by show (hostH L ++ L ++ bodyH Lib.itoa body ++ (if last then [(sCo, wClose)] else [])).length ≤ _; rw [List.length_append, List.length_append, List.length_append]; have : (if last then [(sCo, wClose)] else [] : List (List UInt8 × List UInt8)).length ≤ 1 := (by split <;> simp); omega)
        have hN : (hostH L ++ L ++ bodyH Lib.itoa body).length ≤ 4398046511002 := by rw [List.length_append, List.length_append]; omega
        generalize hostH L ++ L ++ bodyH Lib.itoa body = H3 at *
        obtain ⟨c0, c1, c2, c3, c4⟩ := HC.out wc b10
        have HZ10 : Hid (B ≤ wc.heap.size) := (by have := b10.size; rw [← HBB.out] at this; exact this)
        have HR10 : Hid _ := r10
        have HB10 : Hid (Below B W0 wc) := b10
        clear r10 b10 d0 d1 d2 d3 d4 HR9 HB9 HZ9 kd HL9 HL8 hlb hlh HHOST HBODY HBe
        go_upto_if 63 with (fail)
        go_cut [8] (fun fv wx => ∃ ad cap, fv = .slice ad (H3 ++ (if last then [(sCo, wClose)] else [])).length cap ∧ wx.ownsRow B 52 2 fv (H3 ++ (if last then [(sCo, wClose)] else [])).length (hdCells (H3 ++ (if last then [(sCo, wClose)] else []))) ∧ Below B W0 wx)
        case first =>
          have h1 : Hs (wc.alloc (.cells #[.string ⟨#[99, 111, 110, 110, 101, 99, 116, 105, 111, 110]⟩, .string ⟨#[99, 108, 111, 115, 101]⟩] 52)) (.slice (some ⟨wc.heap.size, 0, none⟩) 1 1) [(sCo, wClose)] := Hs.one wc _ sCo wClose
          have hG : Below wc.heap.size wc (wc.alloc (.cells #[.string ⟨#[99, 111, 110, 110, 101, 99, 116, 105, 111, 110]⟩, .string ⟨#[99, 108, 111, 115, 101]⟩] 52)) := (Below.refl _ wc).alloc (Nat.le_refl _) _
          have HB11 : Hid _ := HB10.out.trans (hG.mono HZ10.out)
          have HR11 : Hid _ := row_past HR10.out hG
          have HZ11 : Hid _ := Nat.le_trans HZ10.out hG.size
          have HL11 : Hid (H3.length + 1 ≤ 4398046511104) := (by show _ ≤ _; omega)
          clear hG
          cases last with
          | true =>
            go_wp2_with (first
              | (at_builtin; refine Tryz.appHs rfl _ _ rfl HR11.out HZ11.out rfl h1 rfl (by simpa using HL11.out) ?_; intro v12 w12 r12 b12)
              | fail)
            go_meet
            obtain ⟨ad, cap, e2, -⟩ := (Hs.ofRow r12).ex
            refine ⟨ad, cap, e2, ?_, HB11.out.trans b12⟩
            rw [← List.length_append] at r12
            exact r12
          | false =>
            go_wp2
            go_meet
            have e : H3 ++ (if false = true then [(sCo, wClose)] else []) = H3 := by simp
            rw [e]
            exact ⟨_, _, rfl, HR10.out, HB10.out⟩
        case rest =>
          obtain ⟨ad13, cap13, rfl, r13, b13⟩ := hcut
          generalize H3 ++ (if last then [(sCo, wClose)] else []) = H at *
          rw [← HX.out] at HT HANS
          have hHl : H.length ≤ 4398046511104 := (by
            have e := Hs.ofRow r13
            have := r13.1
            have h2 := HHL.out
            rw [← HX.out] at h2
            exact h2)
          obtain ⟨d0, d1, d2, d3, d4⟩ := HC.out _ b13
          have hB13 := HB0.out _ b13
          have HH13 : Hid (Hs _ (.slice ad13 H.length cap13) H) := Hs.ofRow r13
          have kl := fun n => Tryz.rLines_any (HH13.out.below (belowN (Below.refl _ _) n)) (by omega) (Nat.le_trans HT.out (by omega))
          have hcv := fun n => Tryz.conv_bs (HY.out _ (belowN hB13 n))
          have HB13 : Hid _ := hB13
          have hTl := HT.out
          have HLN : Hid ((rqLine meth tg ++ [13, 10] ++ headText H ++ [13, 10]).length = headSize (rqLine meth tg) H) := head_len _ _
          have HPR : Hid (printedT (rqLine meth tg) H body = (rqLine meth tg ++ [13, 10] ++ headText H ++ [13, 10]) ++ body) := rfl
          have HCL : Hid (∀ h : List UInt8, (⟨meth.toArray⟩ : ByteArray) ++ ⟨#[32]⟩ ++ ⟨tg.toArray⟩ ++ ⟨#[32, 72, 84, 84, 80, 47, 49, 46, 49, 13, 10]⟩ ++ ⟨h.toArray⟩ ++ ⟨#[13, 10]⟩ = ⟨(rqLine meth tg ++ [13, 10] ++ h ++ [13, 10]).toArray⟩) := fun h => catLine meth tg h
          have z1 := text_size meth
          have z2 := text_size tg
          have z3 := text_size (headText H)
          have z4 := text_size body
          generalize hTH : headText H = TH at *
          have a1 : ¬ 9223372036854775807 < meth.length + 1 := by omega
          have a2 : ¬ 9223372036854775807 < meth.length + 1 + tg.length := by omega
          have a3 : ¬ 9223372036854775807 < meth.length + 1 + tg.length + 11 := by omega
          have a4 : ¬ 9223372036854775807 < meth.length + 1 + tg.length + 11 + TH.length := by omega
          have a5 : ¬ 9223372036854775807 < meth.length + 1 + tg.length + 11 + TH.length + 2 := by omega
          clear r13 b13 hB13 c0 c1 c2 c3 c4 HR10 HB10 HZ10 HC HA HV HY hTH
          go_upto_region 16 with (fail)
          go_quiet (first | (go_at_call 29; exact Calls.quiet_of (kl _)) | fail)
          rw [HCL.out]
          have HLN2 : Hid ((rqLine meth tg ++ [13, 10] ++ TH ++ [13, 10]).length + body.length ≤ 9223372036854775807) := (by
            show _ ≤ _
            have e : (rqLine meth tg).length = meth.length + tg.length + 10 := by
              unfold rqLine
              simp only [List.length_append, List.length_cons, List.length_nil]
              have : wNewer.length = 8 := rfl
              omega
            simp only [List.length_append, List.length_cons, List.length_nil]
            omega)
          clear HCL a1 a2 a3 a4 a5 z1 z2 z3 kl
          generalize rqLine meth tg ++ [13, 10] ++ TH ++ [13, 10] = T0 at *
          have z5 := text_size T0
          have hT0 := HLN.out
          rw [← hT0] at HANS
          clear hT0 HLN
          have a6 : ¬ 9223372036854775807 < T0.length + body.length := by have := HLN2.out; omega
          have hcv1 := hcv nq
          by_cases h32 : H.length ≤ 32
          · have q1 : ¬ (H.length : Int) > 32 := by omega
            by_cases h48 : T0.length ≤ 2048
            · have q2 : ¬ (T0.length : Int) > 2048 := by omega
              rw [if_pos ⟨h32, h48⟩] at HANS
              clear h32 h48 hcv HLN2
              go_wp2
              go_ret2
              refine ⟨?_, belowN HB13.out nq⟩
              rw [HANS.out]
              show Ending.returned (.tuple #[.string (⟨T0.toArray⟩ ++ ⟨body.toArray⟩), .int .i64 0]) = .returned (.tuple #[.string ⟨(printedT (rqLine meth tg) H body).toArray⟩, .int .i64 0])
              rw [HPR.out, cat2]
            · have q2 : (T0.length : Int) > 2048 := by omega
              rw [if_neg (fun e => h48 e.2)] at HANS
              clear h32 h48 hcv HLN2
              go_wp2
              go_ret2
              exact ⟨by rw [HANS.out]; rfl, belowN HB13.out nq⟩
          · have q1 : (H.length : Int) > 32 := by omega
            rw [if_neg (fun e => h32 e.1)] at HANS
            clear h32 hcv HLN2
            go_wp2
            go_ret2
            exact ⟨by rw [HANS.out]; rfl, belowN HB13.out nq⟩
end Go.Proofs
namespace Go.Wb
open Go.RowKit Go.Proofs Go.Wi
/-- What PrintResponse answers: a text and a number. -/
def prAns (dec : Int → List UInt8) (st : Int) (L : List (List UInt8 × List UInt8)) (body : List UInt8) (last : Bool) : List UInt8 × Int :=
  if mayPrint st L body = true then
    if (prHeads dec st L body last).length ≤ 32 ∧ headSize (prLine dec st) (prHeads dec st L body last) ≤ 2048 then (printedT (prLine dec st) (prHeads dec st L body last) body, 0) else ([], 181)
  else ([], 180)
theorem catStat (a b h : List UInt8) : (⟨#[72, 84, 84, 80, 47, 49, 46, 49, 32]⟩ : ByteArray) ++ ⟨a.toArray⟩ ++ ⟨#[32]⟩ ++ ⟨b.toArray⟩ ++ ⟨#[13, 10]⟩ ++ ⟨h.toArray⟩ ++ ⟨#[13, 10]⟩ = ⟨(([72, 84, 84, 80, 47, 49, 46, 49, 32] ++ a ++ [32] ++ b) ++ [13, 10] ++ h ++ [13, 10]).toArray⟩ := by
  apply ByteArray.ext
  simp [ByteArray.data_append]
end Go.Wb
namespace Go.Proofs
open Go.RowKit Go.Wi Go.Wb
set_option maxRecDepth 20000 in
set_option maxHeartbeats 2000000 in
theorem Tryz.rPrintResponse_no {w : World} {V Y : Value} {L : List (List UInt8 × List UInt8)} {body : List UInt8} (st : Int) (last : Bool) (hV : Hs w V L) (hY : Bs w Y body) (hl : ∀ x ∈ L, x.1.length ≤ 140737488355328 ∧ x.2.length ≤ 140737488355328) (hL : L.length ≤ 4398046511000) (hno : mayPrint st L body = false) :
    Calls Tryz.prog 9 #[.agg #[.int .i64 st, V, Y, .bool last]] w fun e w' => e = .returned (.tuple #[.string ⟨#[]⟩, .int .i64 180]) ∧ Below w.heap.size w w' := by
  obtain ⟨adV, capV, eV, -⟩ := hV.ex
  subst eV
  obtain ⟨adY, capY, eY, -⟩ := hY.ex
  subst eY
  have hA : Below w.heap.size w (w.alloc (.cells #[.int .i64 st, .slice adV L.length capV, .slice adY body.length capY, .bool last] 36)) := (Below.refl _ w).alloc (Nat.le_refl _) _
  have kf := Tryz.rFine_any (hV.below hA) (by omega) hl
  have hno2 : ((decide (200 ≤ st) && decide (st ≤ 599)) && !((st == 204 || st == 304) && decide (0 < body.length)) && mayStand L) = false := hno
  have HA : Hid _ := hA
  clear hA hV hY hl hno
  generalize mayStand L = ms at *
  generalize hostsOf L = nh at *
  by_cases h1 : 200 ≤ st
  · by_cases h2 : st ≤ 599
    · rw [decide_eq_true h1, decide_eq_true h2] at hno2
      have q1 : ¬ st < 200 := by omega
      have q2 : ¬ st > 599 := by omega
      by_cases h204 : st = 204
      · subst h204
        by_cases hb : 0 < body.length
        · have qb : (body.length : Int) > 0 := by omega
          have qb2 : decide ((0 : Int) < (body.length : Int)) = true := decide_eq_true qb
          have qb3 : body ≠ [] := fun e => by rw [e] at hb; cases hb
          clear hno2 h1 h2 hb
          go_enter Tryz.func9, Tryz.ntmps9
          go_wp2_with (first | (go_at_call 25; refine kf.mono ?_; clear kf; rintro e w1 ⟨rfl, rfl⟩) | fail)
          go_ret2
          exact ⟨rfl, HA.out⟩
        · obtain rfl : ms = false := by simpa [hb] using hno2
          obtain rfl : body = [] := List.eq_nil_of_length_eq_zero (by omega)
          simp only [List.length_nil] at kf HA
          clear hno2 h1 h2 hb
          go_enter Tryz.func9, Tryz.ntmps9
          go_wp2_with (first | (go_at_call 25; refine kf.mono ?_; clear kf; rintro e w1 ⟨rfl, rfl⟩) | fail)
          go_ret2
          exact ⟨rfl, HA.out⟩
      · have p204 : (st == 204) = false := by simpa using h204
        by_cases h304 : st = 304
        · subst h304
          by_cases hb : 0 < body.length
          · have qb : (body.length : Int) > 0 := by omega
            have qb2 : decide ((0 : Int) < (body.length : Int)) = true := decide_eq_true qb
            have qb3 : body ≠ [] := fun e => by rw [e] at hb; cases hb
            clear hno2 h1 h2 hb
            go_enter Tryz.func9, Tryz.ntmps9
            go_wp2_with (first | (go_at_call 25; refine kf.mono ?_; clear kf; rintro e w1 ⟨rfl, rfl⟩) | fail)
            go_ret2
            exact ⟨rfl, HA.out⟩
          · obtain rfl : ms = false := by simpa [hb] using hno2
            obtain rfl : body = [] := List.eq_nil_of_length_eq_zero (by omega)
            simp only [List.length_nil] at kf HA
            clear hno2 h1 h2 hb
            go_enter Tryz.func9, Tryz.ntmps9
            go_wp2_with (first | (go_at_call 25; refine kf.mono ?_; clear kf; rintro e w1 ⟨rfl, rfl⟩) | fail)
            go_ret2
            exact ⟨rfl, HA.out⟩
        · have p304 : (st == 304) = false := by simpa using h304
          obtain rfl : ms = false := by simpa [p204, p304] using hno2
          clear hno2 h1 h2 h204 h304
          go_enter Tryz.func9, Tryz.ntmps9
          go_wp2_with (first | (go_at_call 25; refine kf.mono ?_; clear kf; rintro e w1 ⟨rfl, rfl⟩) | fail)
          go_ret2
          exact ⟨rfl, HA.out⟩
    · have q1 : ¬ st < 200 := by omega
      have q2 : st > 599 := by omega
      have p204 : (st == 204) = false := by simp; omega
      have p304 : (st == 304) = false := by simp; omega
      clear hno2 h1 h2
      go_enter Tryz.func9, Tryz.ntmps9
      go_wp2_with (first | (go_at_call 25; refine kf.mono ?_; clear kf; rintro e w1 ⟨rfl, rfl⟩) | fail)
      go_ret2
      exact ⟨rfl, HA.out⟩
  · have q1 : st < 200 := by omega
    have p204 : (st == 204) = false := by simp; omega
    have p304 : (st == 304) = false := by simp; omega
    clear hno2 h1
    go_enter Tryz.func9, Tryz.ntmps9
    go_wp2_with (first | (go_at_call 25; refine kf.mono ?_; clear kf; rintro e w1 ⟨rfl, rfl⟩) | fail)
    go_ret2
    exact ⟨rfl, HA.out⟩
set_option maxRecDepth 20000 in
set_option maxHeartbeats 4000000 in
theorem Tryz.rPrintResponse_204 {w : World} {V Y : Value} {L : List (List UInt8 × List UInt8)} (last : Bool) (hV : Hs w V L) (hY : Bs w Y []) (hYl : ∀ k, Y.ownBlock = some k → k < w.heap.size) (hl : ∀ x ∈ L, x.1.length ≤ 140737488355328 ∧ x.2.length ≤ 140737488355328) (hL : L.length ≤ 4398046511000) (hT : (headText (prHeads Lib.itoa 204 L [] last)).length ≤ 140737488355328) (hyes : mayPrint 204 L [] = true) :
    Calls Tryz.prog 9 #[.agg #[.int .i64 204, V, Y, .bool last]] w fun e w' => e = .returned (.tuple #[.string ⟨(prAns Lib.itoa 204 L [] last).1.toArray⟩, .int .i64 (prAns Lib.itoa 204 L [] last).2]) ∧ Below w.heap.size w w' := by
  obtain ⟨adV, capV, eV, -⟩ := hV.ex
  subst eV
  obtain ⟨adY, capY, eY, -⟩ := hY.ex
  rw [List.length_nil] at eY
  subst eY
  have hA : Below w.heap.size w (w.alloc (.cells #[.int .i64 204, .slice adV L.length capV, .slice adY 0 capY, .bool last] 36)) := (Below.refl _ w).alloc (Nat.le_refl _) _
  have hsz : (w.alloc (.cells #[.int .i64 204, .slice adV L.length capV, .slice adY 0 capY, .bool last] 36)).heap.size = w.heap.size + 1 := by simp
  have kf := Tryz.rFine_any (hV.below hA) (by omega) hl
  have e4 : mayStand L = true := by
    have h : ((decide ((200 : Int) ≤ 204) && decide ((204 : Int) ≤ 599)) && !(((204 : Int) == 204 || (204 : Int) == 304) && decide (0 < ([] : List UInt8).length)) && mayStand L) = true := hyes
    simpa using h
  rw [e4] at kf
  have HANS : Hid (prAns Lib.itoa 204 L [] last = if (prHeads Lib.itoa 204 L [] last).length ≤ 32 ∧ headSize (prLine Lib.itoa 204) (prHeads Lib.itoa 204 L [] last) ≤ 2048 then (printedT (prLine Lib.itoa 204) (prHeads Lib.itoa 204 L [] last) [], 0) else ([], 181)) := (by show _ = _; unfold prAns; rw [if_pos hyes])
  have HC : Hid (∀ W, Below (w.heap.size + 1) (w.alloc (.cells #[.int .i64 204, .slice adV L.length capV, .slice adY 0 capY, .bool last] 36)) W → W.cell? ⟨w.heap.size, 0, none⟩ = some (.int .i64 204) ∧ W.cell? ⟨w.heap.size, 1, none⟩ = some (.slice adV L.length capV) ∧ W.cell? ⟨w.heap.size, 2, none⟩ = some (.slice adY 0 capY) ∧ W.cell? ⟨w.heap.size, 3, none⟩ = some (.bool last)) := fun W hW => by
    have hn := heap_alloc_new w (.cells #[.int .i64 204, .slice adV L.length capV, .slice adY 0 capY, .bool last] 36)
    exact ⟨(hW.cell (p := ⟨w.heap.size, 0, none⟩) (Nat.lt_succ_self _)).trans (cell_of_row _ _ 0 _ _ _ hn), (hW.cell (p := ⟨w.heap.size, 1, none⟩) (Nat.lt_succ_self _)).trans (cell_of_row _ _ 1 _ _ _ hn), (hW.cell (p := ⟨w.heap.size, 2, none⟩) (Nat.lt_succ_self _)).trans (cell_of_row _ _ 2 _ _ _ hn), (hW.cell (p := ⟨w.heap.size, 3, none⟩) (Nat.lt_succ_self _)).trans (cell_of_row _ _ 3 _ _ _ hn)⟩
  have HV : Hid (Hs w (.slice adV L.length capV) L) := hV
  have HY : Hid (∀ W, Below w.heap.size w W → Bs W (.slice adY 0 capY) []) := fun W hW => hY.below hW hYl
  have HA : Hid _ := hA
  have HS : Hid _ := hsz
  have HT : Hid _ := hT
  have HDG : Hid (∀ W, Calls Tryz.prog 28 #[.int .i64 204] W fun e w' => e = .returned (.string ⟨(Lib.itoa 204).toArray⟩) ∧ Below W.heap.size W w') := fun W => Tryz.rDigits_any 204 (by omega) W
  have hdl : (Lib.itoa 204).length ≤ 21 := Lib.itoa_length_le 204 (by omega) (by omega)
  clear hA hsz hV hY hYl hl hyes e4 hT
  go_enter Tryz.func9, Tryz.ntmps9
  go_upto_region 5 with (first | (go_at_call 25; refine kf.mono ?_; clear kf; rintro e w1 ⟨rfl, rfl⟩) | fail)
  generalize hW0 : w.alloc _ = W0 at *
  have HBB : Hid (w.heap.size + 1 = W0.heap.size) := HS.out.symm
  clear hW0 HS
  have HB0 : Hid (∀ W, Below (w.heap.size + 1) W0 W → Below w.heap.size w W) := fun W hW => HA.out.trans (hW.mono (Nat.le_succ _))
  obtain ⟨B, hB⟩ : ∃ B, w.heap.size + 1 = B := ⟨_, rfl⟩
  rw [hB] at HC HBB HB0
  have HBE : Hid (w.heap.size + 1 = B) := hB
  clear hB
  obtain ⟨c0, c1, c2, c3⟩ := HC.out W0 (Below.refl _ _)
  have HZ8 : Hid (B ≤ W0.heap.size) := (by rw [HBB.out]; exact Nat.le_refl _)
  have HV8 : Hid _ := HV.out.below HA.out
  go_upto_if 49 with (first
    | (at_builtin; refine Tryz.appHs rfl _ _ rfl (L0 := []) (World.ownsRow_nil _ _ _ _) HZ8.out rfl HV8.out rfl (by omega) ?_; intro v9 w9 r9 b9; obtain ⟨d0, d1, d2, d3⟩ := HC.out w9 b9; rw [Nat.zero_add, List.nil_append] at r9; obtain ⟨ad9, cap9, e9, -⟩ := (Hs.ofRow r9).ex; subst e9)
    | fail)
  have HZ9 : Hid (B ≤ w9.heap.size) := (by have := b9.size; rw [← HBB.out] at this; exact this)
  have HR9 : Hid _ := r9
  have HB9 : Hid (Below B W0 w9) := b9
  clear r9 b9 c0 c1 c2 c3 HV8 HZ8
  go_cut [7] (fun fv wx => ∃ ad cap, fv = .slice ad (L ++ lenH Lib.itoa 204 []).length cap ∧ wx.ownsRow B 52 2 fv (L ++ lenH Lib.itoa 204 []).length (hdCells (L ++ lenH Lib.itoa 204 [])) ∧ Below B W0 wx)
  case first =>
    go_wp2
    go_meet
    have e : L ++ lenH Lib.itoa 204 [] = L := List.append_nil L
    rw [e]
    exact ⟨_, _, rfl, HR9.out, HB9.out⟩
  case rest =>
    obtain ⟨ad10, cap10, rfl, r10, b10⟩ := hcut
    have hlb : (lenH Lib.itoa 204 []).length ≤ 1 := lenH_len _ _ _
    have HX : Hid (L ++ lenH Lib.itoa 204 [] ++ (if last then [(sCo, wClose)] else []) = prHeads Lib.itoa 204 L [] last) := rfl
    have HHL : Hid ((prHeads Lib.itoa 204 L [] last).length ≤ 4398046511104) := (by show (L ++ lenH Lib.itoa 204 [] ++ (if last then [(sCo, wClose)] else [])).length ≤ _; rw [List.length_append, List.length_append]; have : (if last then [(sCo, wClose)] else [] : List (List UInt8 × List UInt8)).length ≤ 1 := (by split <;> simp); omega)
    have hN : (L ++ lenH Lib.itoa 204 []).length ≤ 4398046511002 := by rw [List.length_append]; omega
    generalize L ++ lenH Lib.itoa 204 [] = H3 at *
    obtain ⟨c0, c1, c2, c3⟩ := HC.out wc b10
    have HZ10 : Hid (B ≤ wc.heap.size) := (by have := b10.size; rw [← HBB.out] at this; exact this)
    have HR10 : Hid _ := r10
    have HB10 : Hid (Below B W0 wc) := b10
    clear r10 b10 d0 d1 d2 d3 HR9 HB9 HZ9 hlb
    go_upto_if 59 with (fail)
    go_cut [7] (fun fv wx => ∃ ad cap, fv = .slice ad (H3 ++ (if last then [(sCo, wClose)] else [])).length cap ∧ wx.ownsRow B 52 2 fv (H3 ++ (if last then [(sCo, wClose)] else [])).length (hdCells (H3 ++ (if last then [(sCo, wClose)] else []))) ∧ Below B W0 wx)
    case first =>
      have h1 : Hs (wc.alloc (.cells #[.string ⟨#[99, 111, 110, 110, 101, 99, 116, 105, 111, 110]⟩, .string ⟨#[99, 108, 111, 115, 101]⟩] 52)) (.slice (some ⟨wc.heap.size, 0, none⟩) 1 1) [(sCo, wClose)] := Hs.one wc _ sCo wClose
      have hG : Below wc.heap.size wc (wc.alloc (.cells #[.string ⟨#[99, 111, 110, 110, 101, 99, 116, 105, 111, 110]⟩, .string ⟨#[99, 108, 111, 115, 101]⟩] 52)) := (Below.refl _ wc).alloc (Nat.le_refl _) _
      have HB11 : Hid _ := HB10.out.trans (hG.mono HZ10.out)
      have HR11 : Hid _ := row_past HR10.out hG
      have HZ11 : Hid _ := Nat.le_trans HZ10.out hG.size
      have HL11 : Hid (H3.length + 1 ≤ 4398046511104) := (by show _ ≤ _; omega)
      clear hG
      cases last with
      | true =>
        go_wp2_with (first
          | (at_builtin; refine Tryz.appHs rfl _ _ rfl HR11.out HZ11.out rfl h1 rfl (by simpa using HL11.out) ?_; intro v12 w12 r12 b12)
          | fail)
        go_meet
        obtain ⟨ad, cap, e2, -⟩ := (Hs.ofRow r12).ex
        refine ⟨ad, cap, e2, ?_, HB11.out.trans b12⟩
        rw [← List.length_append] at r12
        exact r12
      | false =>
        go_wp2
        go_meet
        have e : H3 ++ (if false = true then [(sCo, wClose)] else []) = H3 := by simp
        rw [e]
        exact ⟨_, _, rfl, HR10.out, HB10.out⟩
    case rest =>
      obtain ⟨ad13, cap13, rfl, r13, b13⟩ := hcut
      generalize H3 ++ (if last then [(sCo, wClose)] else []) = H at *
      rw [← HX.out] at HT HANS
      have hHl : H.length ≤ 4398046511104 := (by
        have h2 := HHL.out
        rw [← HX.out] at h2
        exact h2)
      obtain ⟨wA, hwA⟩ : ∃ x, x = wc := ⟨wc, rfl⟩
      subst hwA
      have hB13 := HB0.out wA b13
      have HH13 : Hid (Hs wA (.slice ad13 H.length cap13) H) := Hs.ofRow r13
      have HZ13 : Hid (w.heap.size + 1 ≤ wA.heap.size) := (by have e := HB0.out; have := b13.size; rw [← HBB.out] at this; rw [HBE.out]; exact this)
      have HKC : Hid (∀ W, Below wA.heap.size wA W → W.cell? ⟨w.heap.size, 0, none⟩ = some (.int .i64 204) ∧ W.cell? ⟨w.heap.size, 2, none⟩ = some (.slice adY 0 capY)) := fun W hW => (by
        have e := HC.out W (b13.trans (hW.mono (by rw [← HBE.out]; exact HZ13.out)))
        exact ⟨e.1, e.2.2.1⟩)
      have kl := fun (W : World) (hW : Below wA.heap.size wA W) => Tryz.rLines_any (HH13.out.below hW) (by omega) (Nat.le_trans HT.out (by omega))
      have kr := Tryz.rReason_any 204
      have hrl := reason_len 204
      have HB13 : Hid (Below w.heap.size w wA) := hB13
      have hTl := HT.out
      have HLN : Hid ((prLine Lib.itoa 204 ++ [13, 10] ++ headText H ++ [13, 10]).length = headSize (prLine Lib.itoa 204) H) := head_len _ _
      have HPR : Hid (printedT (prLine Lib.itoa 204) H [] = (prLine Lib.itoa 204 ++ [13, 10] ++ headText H ++ [13, 10]) ++ []) := rfl
      have HCL : Hid (∀ h : List UInt8, (⟨#[72, 84, 84, 80, 47, 49, 46, 49, 32]⟩ : ByteArray) ++ ⟨(Lib.itoa 204).toArray⟩ ++ ⟨#[32]⟩ ++ ⟨(reason 204).toArray⟩ ++ ⟨#[13, 10]⟩ ++ ⟨h.toArray⟩ ++ ⟨#[13, 10]⟩ = ⟨(prLine Lib.itoa 204 ++ [13, 10] ++ h ++ [13, 10]).toArray⟩) := fun h => catStat _ _ h
      have HLN2 : Hid ((prLine Lib.itoa 204 ++ [13, 10] ++ headText H ++ [13, 10]).length + 0 ≤ 9223372036854775807) := (by
        show _ ≤ _
        unfold prLine
        simp only [List.length_append, List.length_cons, List.length_nil]
        omega)
      generalize hDS : Lib.itoa 204 = DS at *
      generalize hRS : reason 204 = RS at *
      generalize hTH : headText H = TH at *
      have z1 := text_size DS
      have z2 := text_size RS
      have z3 := text_size TH
      have a1 : ¬ 9223372036854775807 < 9 + DS.length := by omega
      have a2 : ¬ 9223372036854775807 < 9 + DS.length + 1 := by omega
      have a3 : ¬ 9223372036854775807 < 9 + DS.length + 1 + RS.length := by omega
      have a4 : ¬ 9223372036854775807 < 9 + DS.length + 1 + RS.length + 2 := by omega
      have a5 : ¬ 9223372036854775807 < 9 + DS.length + 1 + RS.length + 2 + TH.length := by omega
      have a6 : ¬ 9223372036854775807 < 9 + DS.length + 1 + RS.length + 2 + TH.length + 2 := by omega
      clear r13 b13 hB13 c0 c1 c2 c3 HR10 HB10 HZ10 HC HA HV hTH hDS hRS
      go_upto_region 11 with (fail)
      refine wp_region_quiet (C := fun W => Below wA.heap.size wA W) (by kernel_rfl) (by kernel_rfl) ⟨rfl, rfl, rfl, Nat.le_refl _, fun _ _ => rfl⟩ ?_
      dsimp only
      refine Go.Wb.q_valW (v := .pointer (some ⟨w.heap.size, 0, none⟩)) (by kernel_rfl) (fun W _ => by go_simp) ?_
      try simp only [Act.put, List.setIfInBounds_toArray, List.set_cons_zero, List.set_cons_succ]
      refine Go.Wb.q_valW (v := .int .i64 204) (by kernel_rfl) (fun W hW => by have c := (HKC.out W hW).1; go_simp) ?_
      try simp only [Act.put, List.setIfInBounds_toArray, List.set_cons_zero, List.set_cons_succ]
      refine Go.Wb.q_callW (v := .string ⟨DS.toArray⟩) (f := 28) (args := #[.int .i64 204]) (by kernel_rfl) (fun _ _ => by kernel_rfl) (fun W hW => (HDG.out W).mono fun _ _ ⟨h2, h3⟩ => ⟨h2, hW.trans (h3.mono hW.size)⟩) ?_
      try simp only [Act.put, List.setIfInBounds_toArray, List.set_cons_zero, List.set_cons_succ]
      refine Go.Wb.q_valW (v := .string ((⟨#[72, 84, 84, 80, 47, 49, 46, 49, 32]⟩ : ByteArray) ++ ⟨DS.toArray⟩)) (by kernel_rfl) (fun W _ => by go_simp) ?_
      try simp only [Act.put, List.setIfInBounds_toArray, List.set_cons_zero, List.set_cons_succ]
      refine Go.Wb.q_valW (v := .string ((⟨#[72, 84, 84, 80, 47, 49, 46, 49, 32]⟩ : ByteArray) ++ ⟨DS.toArray⟩ ++ ⟨#[32]⟩)) (by kernel_rfl) (fun W _ => by go_simp) ?_
      try simp only [Act.put, List.setIfInBounds_toArray, List.set_cons_zero, List.set_cons_succ]
      refine Go.Wb.q_valW (v := .pointer (some ⟨w.heap.size, 0, none⟩)) (by kernel_rfl) (fun W _ => by go_simp) ?_
      try simp only [Act.put, List.setIfInBounds_toArray, List.set_cons_zero, List.set_cons_succ]
      refine Go.Wb.q_valW (v := .int .i64 204) (by kernel_rfl) (fun W hW => by have c := (HKC.out W hW).1; go_simp) ?_
      try simp only [Act.put, List.setIfInBounds_toArray, List.set_cons_zero, List.set_cons_succ]
      refine Go.Wb.q_callW (v := .string ⟨RS.toArray⟩) (f := 12) (args := #[.int .i64 204]) (by kernel_rfl) (fun _ _ => by kernel_rfl) (fun W hW => (kr W).mono fun _ _ ⟨h2, h3⟩ => ⟨h2, by rw [h3]; exact hW⟩) ?_
      try simp only [Act.put, List.setIfInBounds_toArray, List.set_cons_zero, List.set_cons_succ]
      refine Go.Wb.q_valW (v := .string ((⟨#[72, 84, 84, 80, 47, 49, 46, 49, 32]⟩ : ByteArray) ++ ⟨DS.toArray⟩ ++ ⟨#[32]⟩ ++ ⟨RS.toArray⟩)) (by kernel_rfl) (fun W _ => by go_simp) ?_
      try simp only [Act.put, List.setIfInBounds_toArray, List.set_cons_zero, List.set_cons_succ]
      refine Go.Wb.q_valW (v := .string ((⟨#[72, 84, 84, 80, 47, 49, 46, 49, 32]⟩ : ByteArray) ++ ⟨DS.toArray⟩ ++ ⟨#[32]⟩ ++ ⟨RS.toArray⟩ ++ ⟨#[13, 10]⟩)) (by kernel_rfl) (fun W _ => by go_simp) ?_
      try simp only [Act.put, List.setIfInBounds_toArray, List.set_cons_zero, List.set_cons_succ]
      refine Go.Wb.q_valW (v := .slice ad13 H.length cap13) (by kernel_rfl) (fun _ _ => by kernel_rfl) ?_
      try simp only [Act.put, List.setIfInBounds_toArray, List.set_cons_zero, List.set_cons_succ]
      refine Go.Wb.q_callW (v := .string ⟨TH.toArray⟩) (f := 29) (args := #[.slice ad13 H.length cap13]) (by kernel_rfl) (fun _ _ => by kernel_rfl) (fun W hW => (kl W hW).mono fun _ _ ⟨h2, n2, h3⟩ => ⟨h2, by rw [h3]; exact belowN hW n2⟩) ?_
      try simp only [Act.put, List.setIfInBounds_toArray, List.set_cons_zero, List.set_cons_succ]
      refine Go.Wb.q_valW (v := .string ((⟨#[72, 84, 84, 80, 47, 49, 46, 49, 32]⟩ : ByteArray) ++ ⟨DS.toArray⟩ ++ ⟨#[32]⟩ ++ ⟨RS.toArray⟩ ++ ⟨#[13, 10]⟩ ++ ⟨TH.toArray⟩)) (by kernel_rfl) (fun W _ => by go_simp) ?_
      try simp only [Act.put, List.setIfInBounds_toArray, List.set_cons_zero, List.set_cons_succ]
      refine Go.Wb.q_valW (v := .string ((⟨#[72, 84, 84, 80, 47, 49, 46, 49, 32]⟩ : ByteArray) ++ ⟨DS.toArray⟩ ++ ⟨#[32]⟩ ++ ⟨RS.toArray⟩ ++ ⟨#[13, 10]⟩ ++ ⟨TH.toArray⟩ ++ ⟨#[13, 10]⟩)) (by kernel_rfl) (fun W _ => by go_simp) ?_
      try simp only [Act.put, List.setIfInBounds_toArray, List.set_cons_zero, List.set_cons_succ]
      refine Go.Wb.q_valW (v := .string ((⟨#[72, 84, 84, 80, 47, 49, 46, 49, 32]⟩ : ByteArray) ++ ⟨DS.toArray⟩ ++ ⟨#[32]⟩ ++ ⟨RS.toArray⟩ ++ ⟨#[13, 10]⟩ ++ ⟨TH.toArray⟩ ++ ⟨#[13, 10]⟩)) (by kernel_rfl) (fun _ _ => by kernel_rfl) ?_
      try simp only [Act.put, List.setIfInBounds_toArray, List.set_cons_zero, List.set_cons_succ]
      refine wpQuiet_nil ?_
      intro W5 hW5
      rw [HCL.out TH]
      clear HCL
      generalize prLine Lib.itoa 204 ++ [13, 10] ++ TH ++ [13, 10] = T0 at *
      have hcv := Tryz.conv_bs (HY.out _ (HB13.out.trans (hW5.mono HB13.out.size)))
      obtain ⟨d0, d2⟩ := HKC.out W5 hW5
      have HB5 : Hid (Below w.heap.size w W5) := HB13.out.trans (hW5.mono HB13.out.size)
      clear a1 a2 a3 a4 a5 a6 z1 z2 z3 kl kr hW5 HKC HY
      have z5 := text_size T0
      have hT0 := HLN.out
      rw [← hT0] at HANS
      clear hT0 HLN
      have a7 : ¬ 9223372036854775807 < T0.length + 0 := by have := HLN2.out; omega
      by_cases h32 : H.length ≤ 32
      · have q1 : ¬ (H.length : Int) > 32 := by omega
        by_cases h48 : T0.length ≤ 2048
        · have q2 : ¬ (T0.length : Int) > 2048 := by omega
          rw [if_pos ⟨h32, h48⟩] at HANS
          clear h32 h48 HLN2
          go_wp2
          go_ret2
          refine ⟨?_, HB5.out⟩
          rw [HANS.out]
          show Ending.returned (.tuple #[.string (⟨T0.toArray⟩ ++ ⟨([] : List UInt8).toArray⟩), .int .i64 0]) = .returned (.tuple #[.string ⟨(printedT (prLine Lib.itoa 204) H []).toArray⟩, .int .i64 0])
          rw [HPR.out, cat2]
        · have q2 : (T0.length : Int) > 2048 := by omega
          rw [if_neg (fun e => h48 e.2)] at HANS
          clear h32 h48 HLN2
          go_wp2
          go_ret2
          exact ⟨by rw [HANS.out]; rfl, HB5.out⟩
      · have q1 : (H.length : Int) > 32 := by omega
        rw [if_neg (fun e => h32 e.1)] at HANS
        clear h32 HLN2
        go_wp2
        go_ret2
        exact ⟨by rw [HANS.out]; rfl, HB5.out⟩
set_option maxRecDepth 20000 in
set_option maxHeartbeats 4000000 in
theorem Tryz.rPrintResponse_304 {w : World} {V Y : Value} {L : List (List UInt8 × List UInt8)} (last : Bool) (hV : Hs w V L) (hY : Bs w Y []) (hYl : ∀ k, Y.ownBlock = some k → k < w.heap.size) (hl : ∀ x ∈ L, x.1.length ≤ 140737488355328 ∧ x.2.length ≤ 140737488355328) (hL : L.length ≤ 4398046511000) (hT : (headText (prHeads Lib.itoa 304 L [] last)).length ≤ 140737488355328) (hyes : mayPrint 304 L [] = true) :
    Calls Tryz.prog 9 #[.agg #[.int .i64 304, V, Y, .bool last]] w fun e w' => e = .returned (.tuple #[.string ⟨(prAns Lib.itoa 304 L [] last).1.toArray⟩, .int .i64 (prAns Lib.itoa 304 L [] last).2]) ∧ Below w.heap.size w w' := by
  obtain ⟨adV, capV, eV, -⟩ := hV.ex
  subst eV
  obtain ⟨adY, capY, eY, -⟩ := hY.ex
  rw [List.length_nil] at eY
  subst eY
  have hA : Below w.heap.size w (w.alloc (.cells #[.int .i64 304, .slice adV L.length capV, .slice adY 0 capY, .bool last] 36)) := (Below.refl _ w).alloc (Nat.le_refl _) _
  have hsz : (w.alloc (.cells #[.int .i64 304, .slice adV L.length capV, .slice adY 0 capY, .bool last] 36)).heap.size = w.heap.size + 1 := by simp
  have kf := Tryz.rFine_any (hV.below hA) (by omega) hl
  have e4 : mayStand L = true := by
    have h : ((decide ((200 : Int) ≤ 304) && decide ((304 : Int) ≤ 599)) && !(((304 : Int) == 204 || (304 : Int) == 304) && decide (0 < ([] : List UInt8).length)) && mayStand L) = true := hyes
    simpa using h
  rw [e4] at kf
  have HANS : Hid (prAns Lib.itoa 304 L [] last = if (prHeads Lib.itoa 304 L [] last).length ≤ 32 ∧ headSize (prLine Lib.itoa 304) (prHeads Lib.itoa 304 L [] last) ≤ 2048 then (printedT (prLine Lib.itoa 304) (prHeads Lib.itoa 304 L [] last) [], 0) else ([], 181)) := (by show _ = _; unfold prAns; rw [if_pos hyes])
  have HC : Hid (∀ W, Below (w.heap.size + 1) (w.alloc (.cells #[.int .i64 304, .slice adV L.length capV, .slice adY 0 capY, .bool last] 36)) W → W.cell? ⟨w.heap.size, 0, none⟩ = some (.int .i64 304) ∧ W.cell? ⟨w.heap.size, 1, none⟩ = some (.slice adV L.length capV) ∧ W.cell? ⟨w.heap.size, 2, none⟩ = some (.slice adY 0 capY) ∧ W.cell? ⟨w.heap.size, 3, none⟩ = some (.bool last)) := fun W hW => by
    have hn := heap_alloc_new w (.cells #[.int .i64 304, .slice adV L.length capV, .slice adY 0 capY, .bool last] 36)
    exact ⟨(hW.cell (p := ⟨w.heap.size, 0, none⟩) (Nat.lt_succ_self _)).trans (cell_of_row _ _ 0 _ _ _ hn), (hW.cell (p := ⟨w.heap.size, 1, none⟩) (Nat.lt_succ_self _)).trans (cell_of_row _ _ 1 _ _ _ hn), (hW.cell (p := ⟨w.heap.size, 2, none⟩) (Nat.lt_succ_self _)).trans (cell_of_row _ _ 2 _ _ _ hn), (hW.cell (p := ⟨w.heap.size, 3, none⟩) (Nat.lt_succ_self _)).trans (cell_of_row _ _ 3 _ _ _ hn)⟩
  have HV : Hid (Hs w (.slice adV L.length capV) L) := hV
  have HY : Hid (∀ W, Below w.heap.size w W → Bs W (.slice adY 0 capY) []) := fun W hW => hY.below hW hYl
  have HA : Hid _ := hA
  have HS : Hid _ := hsz
  have HT : Hid _ := hT
  have HDG : Hid (∀ W, Calls Tryz.prog 28 #[.int .i64 304] W fun e w' => e = .returned (.string ⟨(Lib.itoa 304).toArray⟩) ∧ Below W.heap.size W w') := fun W => Tryz.rDigits_any 304 (by omega) W
  have hdl : (Lib.itoa 304).length ≤ 21 := Lib.itoa_length_le 304 (by omega) (by omega)
  clear hA hsz hV hY hYl hl hyes e4 hT
  go_enter Tryz.func9, Tryz.ntmps9
  go_upto_region 5 with (first | (go_at_call 25; refine kf.mono ?_; clear kf; rintro e w1 ⟨rfl, rfl⟩) | fail)
  generalize hW0 : w.alloc _ = W0 at *
  have HBB : Hid (w.heap.size + 1 = W0.heap.size) := HS.out.symm
  clear hW0 HS
  have HB0 : Hid (∀ W, Below (w.heap.size + 1) W0 W → Below w.heap.size w W) := fun W hW => HA.out.trans (hW.mono (Nat.le_succ _))
  obtain ⟨B, hB⟩ : ∃ B, w.heap.size + 1 = B := ⟨_, rfl⟩
  rw [hB] at HC HBB HB0
  have HBE : Hid (w.heap.size + 1 = B) := hB
  clear hB
  obtain ⟨c0, c1, c2, c3⟩ := HC.out W0 (Below.refl _ _)
  have HZ8 : Hid (B ≤ W0.heap.size) := (by rw [HBB.out]; exact Nat.le_refl _)
  have HV8 : Hid _ := HV.out.below HA.out
  go_upto_if 49 with (first
    | (at_builtin; refine Tryz.appHs rfl _ _ rfl (L0 := []) (World.ownsRow_nil _ _ _ _) HZ8.out rfl HV8.out rfl (by omega) ?_; intro v9 w9 r9 b9; obtain ⟨d0, d1, d2, d3⟩ := HC.out w9 b9; rw [Nat.zero_add, List.nil_append] at r9; obtain ⟨ad9, cap9, e9, -⟩ := (Hs.ofRow r9).ex; subst e9)
    | fail)
  have HZ9 : Hid (B ≤ w9.heap.size) := (by have := b9.size; rw [← HBB.out] at this; exact this)
  have HR9 : Hid _ := r9
  have HB9 : Hid (Below B W0 w9) := b9
  clear r9 b9 c0 c1 c2 c3 HV8 HZ8
  go_cut [7] (fun fv wx => ∃ ad cap, fv = .slice ad (L ++ lenH Lib.itoa 304 []).length cap ∧ wx.ownsRow B 52 2 fv (L ++ lenH Lib.itoa 304 []).length (hdCells (L ++ lenH Lib.itoa 304 [])) ∧ Below B W0 wx)
  case first =>
    go_wp2
    go_meet
    have e : L ++ lenH Lib.itoa 304 [] = L := List.append_nil L
    rw [e]
    exact ⟨_, _, rfl, HR9.out, HB9.out⟩
  case rest =>
    obtain ⟨ad10, cap10, rfl, r10, b10⟩ := hcut
    have hlb : (lenH Lib.itoa 304 []).length ≤ 1 := lenH_len _ _ _
    have HX : Hid (L ++ lenH Lib.itoa 304 [] ++ (if last then [(sCo, wClose)] else []) = prHeads Lib.itoa 304 L [] last) := rfl
    have HHL : Hid ((prHeads Lib.itoa 304 L [] last).length ≤ 4398046511104) := (by show (L ++ lenH Lib.itoa 304 [] ++ (if last then [(sCo, wClose)] else [])).length ≤ _; rw [List.length_append, List.length_append]; have : (if last then [(sCo, wClose)] else [] : List (List UInt8 × List UInt8)).length ≤ 1 := (by split <;> simp); omega)
    have hN : (L ++ lenH Lib.itoa 304 []).length ≤ 4398046511002 := by rw [List.length_append]; omega
    generalize L ++ lenH Lib.itoa 304 [] = H3 at *
    obtain ⟨c0, c1, c2, c3⟩ := HC.out wc b10
    have HZ10 : Hid (B ≤ wc.heap.size) := (by have := b10.size; rw [← HBB.out] at this; exact this)
    have HR10 : Hid _ := r10
    have HB10 : Hid (Below B W0 wc) := b10
    clear r10 b10 d0 d1 d2 d3 HR9 HB9 HZ9 hlb
    go_upto_if 59 with (fail)
    go_cut [7] (fun fv wx => ∃ ad cap, fv = .slice ad (H3 ++ (if last then [(sCo, wClose)] else [])).length cap ∧ wx.ownsRow B 52 2 fv (H3 ++ (if last then [(sCo, wClose)] else [])).length (hdCells (H3 ++ (if last then [(sCo, wClose)] else []))) ∧ Below B W0 wx)
    case first =>
      have h1 : Hs (wc.alloc (.cells #[.string ⟨#[99, 111, 110, 110, 101, 99, 116, 105, 111, 110]⟩, .string ⟨#[99, 108, 111, 115, 101]⟩] 52)) (.slice (some ⟨wc.heap.size, 0, none⟩) 1 1) [(sCo, wClose)] := Hs.one wc _ sCo wClose
      have hG : Below wc.heap.size wc (wc.alloc (.cells #[.string ⟨#[99, 111, 110, 110, 101, 99, 116, 105, 111, 110]⟩, .string ⟨#[99, 108, 111, 115, 101]⟩] 52)) := (Below.refl _ wc).alloc (Nat.le_refl _) _
      have HB11 : Hid _ := HB10.out.trans (hG.mono HZ10.out)
      have HR11 : Hid _ := row_past HR10.out hG
      have HZ11 : Hid _ := Nat.le_trans HZ10.out hG.size
      have HL11 : Hid (H3.length + 1 ≤ 4398046511104) := (by show _ ≤ _; omega)
      clear hG
      cases last with
      | true =>
        go_wp2_with (first
          | (at_builtin; refine Tryz.appHs rfl _ _ rfl HR11.out HZ11.out rfl h1 rfl (by simpa using HL11.out) ?_; intro v12 w12 r12 b12)
          | fail)
        go_meet
        obtain ⟨ad, cap, e2, -⟩ := (Hs.ofRow r12).ex
        refine ⟨ad, cap, e2, ?_, HB11.out.trans b12⟩
        rw [← List.length_append] at r12
        exact r12
      | false =>
        go_wp2
        go_meet
        have e : H3 ++ (if false = true then [(sCo, wClose)] else []) = H3 := by simp
        rw [e]
        exact ⟨_, _, rfl, HR10.out, HB10.out⟩
    case rest =>
      obtain ⟨ad13, cap13, rfl, r13, b13⟩ := hcut
      generalize H3 ++ (if last then [(sCo, wClose)] else []) = H at *
      rw [← HX.out] at HT HANS
      have hHl : H.length ≤ 4398046511104 := (by
        have h2 := HHL.out
        rw [← HX.out] at h2
        exact h2)
      obtain ⟨wA, hwA⟩ : ∃ x, x = wc := ⟨wc, rfl⟩
      subst hwA
      have hB13 := HB0.out wA b13
      have HH13 : Hid (Hs wA (.slice ad13 H.length cap13) H) := Hs.ofRow r13
      have HZ13 : Hid (w.heap.size + 1 ≤ wA.heap.size) := (by have e := HB0.out; have := b13.size; rw [← HBB.out] at this; rw [HBE.out]; exact this)
      have HKC : Hid (∀ W, Below wA.heap.size wA W → W.cell? ⟨w.heap.size, 0, none⟩ = some (.int .i64 304) ∧ W.cell? ⟨w.heap.size, 2, none⟩ = some (.slice adY 0 capY)) := fun W hW => (by
        have e := HC.out W (b13.trans (hW.mono (by rw [← HBE.out]; exact HZ13.out)))
        exact ⟨e.1, e.2.2.1⟩)
      have kl := fun (W : World) (hW : Below wA.heap.size wA W) => Tryz.rLines_any (HH13.out.below hW) (by omega) (Nat.le_trans HT.out (by omega))
      have kr := Tryz.rReason_any 304
      have hrl := reason_len 304
      have HB13 : Hid (Below w.heap.size w wA) := hB13
      have hTl := HT.out
      have HLN : Hid ((prLine Lib.itoa 304 ++ [13, 10] ++ headText H ++ [13, 10]).length = headSize (prLine Lib.itoa 304) H) := head_len _ _
      have HPR : Hid (printedT (prLine Lib.itoa 304) H [] = (prLine Lib.itoa 304 ++ [13, 10] ++ headText H ++ [13, 10]) ++ []) := rfl
      have HCL : Hid (∀ h : List UInt8, (⟨#[72, 84, 84, 80, 47, 49, 46, 49, 32]⟩ : ByteArray) ++ ⟨(Lib.itoa 304).toArray⟩ ++ ⟨#[32]⟩ ++ ⟨(reason 304).toArray⟩ ++ ⟨#[13, 10]⟩ ++ ⟨h.toArray⟩ ++ ⟨#[13, 10]⟩ = ⟨(prLine Lib.itoa 304 ++ [13, 10] ++ h ++ [13, 10]).toArray⟩) := fun h => catStat _ _ h
      have HLN2 : Hid ((prLine Lib.itoa 304 ++ [13, 10] ++ headText H ++ [13, 10]).length + 0 ≤ 9223372036854775807) := (by
        show _ ≤ _
        unfold prLine
        simp only [List.length_append, List.length_cons, List.length_nil]
        omega)
      generalize hDS : Lib.itoa 304 = DS at *
      generalize hRS : reason 304 = RS at *
      generalize hTH : headText H = TH at *
      have z1 := text_size DS
      have z2 := text_size RS
      have z3 := text_size TH
      have a1 : ¬ 9223372036854775807 < 9 + DS.length := by omega
      have a2 : ¬ 9223372036854775807 < 9 + DS.length + 1 := by omega
      have a3 : ¬ 9223372036854775807 < 9 + DS.length + 1 + RS.length := by omega
      have a4 : ¬ 9223372036854775807 < 9 + DS.length + 1 + RS.length + 2 := by omega
      have a5 : ¬ 9223372036854775807 < 9 + DS.length + 1 + RS.length + 2 + TH.length := by omega
      have a6 : ¬ 9223372036854775807 < 9 + DS.length + 1 + RS.length + 2 + TH.length + 2 := by omega
      clear r13 b13 hB13 c0 c1 c2 c3 HR10 HB10 HZ10 HC HA HV hTH hDS hRS
      go_upto_region 11 with (fail)
      refine wp_region_quiet (C := fun W => Below wA.heap.size wA W) (by kernel_rfl) (by kernel_rfl) ⟨rfl, rfl, rfl, Nat.le_refl _, fun _ _ => rfl⟩ ?_
      dsimp only
      refine Go.Wb.q_valW (v := .pointer (some ⟨w.heap.size, 0, none⟩)) (by kernel_rfl) (fun W _ => by go_simp) ?_
      try simp only [Act.put, List.setIfInBounds_toArray, List.set_cons_zero, List.set_cons_succ]
      refine Go.Wb.q_valW (v := .int .i64 304) (by kernel_rfl) (fun W hW => by have c := (HKC.out W hW).1; go_simp) ?_
      try simp only [Act.put, List.setIfInBounds_toArray, List.set_cons_zero, List.set_cons_succ]
      refine Go.Wb.q_callW (v := .string ⟨DS.toArray⟩) (f := 28) (args := #[.int .i64 304]) (by kernel_rfl) (fun _ _ => by kernel_rfl) (fun W hW => (HDG.out W).mono fun _ _ ⟨h2, h3⟩ => ⟨h2, hW.trans (h3.mono hW.size)⟩) ?_
      try simp only [Act.put, List.setIfInBounds_toArray, List.set_cons_zero, List.set_cons_succ]
      refine Go.Wb.q_valW (v := .string ((⟨#[72, 84, 84, 80, 47, 49, 46, 49, 32]⟩ : ByteArray) ++ ⟨DS.toArray⟩)) (by kernel_rfl) (fun W _ => by go_simp) ?_
      try simp only [Act.put, List.setIfInBounds_toArray, List.set_cons_zero, List.set_cons_succ]
      refine Go.Wb.q_valW (v := .string ((⟨#[72, 84, 84, 80, 47, 49, 46, 49, 32]⟩ : ByteArray) ++ ⟨DS.toArray⟩ ++ ⟨#[32]⟩)) (by kernel_rfl) (fun W _ => by go_simp) ?_
      try simp only [Act.put, List.setIfInBounds_toArray, List.set_cons_zero, List.set_cons_succ]
      refine Go.Wb.q_valW (v := .pointer (some ⟨w.heap.size, 0, none⟩)) (by kernel_rfl) (fun W _ => by go_simp) ?_
      try simp only [Act.put, List.setIfInBounds_toArray, List.set_cons_zero, List.set_cons_succ]
      refine Go.Wb.q_valW (v := .int .i64 304) (by kernel_rfl) (fun W hW => by have c := (HKC.out W hW).1; go_simp) ?_
      try simp only [Act.put, List.setIfInBounds_toArray, List.set_cons_zero, List.set_cons_succ]
      refine Go.Wb.q_callW (v := .string ⟨RS.toArray⟩) (f := 12) (args := #[.int .i64 304]) (by kernel_rfl) (fun _ _ => by kernel_rfl) (fun W hW => (kr W).mono fun _ _ ⟨h2, h3⟩ => ⟨h2, by rw [h3]; exact hW⟩) ?_
      try simp only [Act.put, List.setIfInBounds_toArray, List.set_cons_zero, List.set_cons_succ]
      refine Go.Wb.q_valW (v := .string ((⟨#[72, 84, 84, 80, 47, 49, 46, 49, 32]⟩ : ByteArray) ++ ⟨DS.toArray⟩ ++ ⟨#[32]⟩ ++ ⟨RS.toArray⟩)) (by kernel_rfl) (fun W _ => by go_simp) ?_
      try simp only [Act.put, List.setIfInBounds_toArray, List.set_cons_zero, List.set_cons_succ]
      refine Go.Wb.q_valW (v := .string ((⟨#[72, 84, 84, 80, 47, 49, 46, 49, 32]⟩ : ByteArray) ++ ⟨DS.toArray⟩ ++ ⟨#[32]⟩ ++ ⟨RS.toArray⟩ ++ ⟨#[13, 10]⟩)) (by kernel_rfl) (fun W _ => by go_simp) ?_
      try simp only [Act.put, List.setIfInBounds_toArray, List.set_cons_zero, List.set_cons_succ]
      refine Go.Wb.q_valW (v := .slice ad13 H.length cap13) (by kernel_rfl) (fun _ _ => by kernel_rfl) ?_
      try simp only [Act.put, List.setIfInBounds_toArray, List.set_cons_zero, List.set_cons_succ]
      refine Go.Wb.q_callW (v := .string ⟨TH.toArray⟩) (f := 29) (args := #[.slice ad13 H.length cap13]) (by kernel_rfl) (fun _ _ => by kernel_rfl) (fun W hW => (kl W hW).mono fun _ _ ⟨h2, n2, h3⟩ => ⟨h2, by rw [h3]; exact belowN hW n2⟩) ?_
      try simp only [Act.put, List.setIfInBounds_toArray, List.set_cons_zero, List.set_cons_succ]
      refine Go.Wb.q_valW (v := .string ((⟨#[72, 84, 84, 80, 47, 49, 46, 49, 32]⟩ : ByteArray) ++ ⟨DS.toArray⟩ ++ ⟨#[32]⟩ ++ ⟨RS.toArray⟩ ++ ⟨#[13, 10]⟩ ++ ⟨TH.toArray⟩)) (by kernel_rfl) (fun W _ => by go_simp) ?_
      try simp only [Act.put, List.setIfInBounds_toArray, List.set_cons_zero, List.set_cons_succ]
      refine Go.Wb.q_valW (v := .string ((⟨#[72, 84, 84, 80, 47, 49, 46, 49, 32]⟩ : ByteArray) ++ ⟨DS.toArray⟩ ++ ⟨#[32]⟩ ++ ⟨RS.toArray⟩ ++ ⟨#[13, 10]⟩ ++ ⟨TH.toArray⟩ ++ ⟨#[13, 10]⟩)) (by kernel_rfl) (fun W _ => by go_simp) ?_
      try simp only [Act.put, List.setIfInBounds_toArray, List.set_cons_zero, List.set_cons_succ]
      refine Go.Wb.q_valW (v := .string ((⟨#[72, 84, 84, 80, 47, 49, 46, 49, 32]⟩ : ByteArray) ++ ⟨DS.toArray⟩ ++ ⟨#[32]⟩ ++ ⟨RS.toArray⟩ ++ ⟨#[13, 10]⟩ ++ ⟨TH.toArray⟩ ++ ⟨#[13, 10]⟩)) (by kernel_rfl) (fun _ _ => by kernel_rfl) ?_
      try simp only [Act.put, List.setIfInBounds_toArray, List.set_cons_zero, List.set_cons_succ]
      refine wpQuiet_nil ?_
      intro W5 hW5
      rw [HCL.out TH]
      clear HCL
      generalize prLine Lib.itoa 304 ++ [13, 10] ++ TH ++ [13, 10] = T0 at *
      have hcv := Tryz.conv_bs (HY.out _ (HB13.out.trans (hW5.mono HB13.out.size)))
      obtain ⟨d0, d2⟩ := HKC.out W5 hW5
      have HB5 : Hid (Below w.heap.size w W5) := HB13.out.trans (hW5.mono HB13.out.size)
      clear a1 a2 a3 a4 a5 a6 z1 z2 z3 kl kr hW5 HKC HY
      have z5 := text_size T0
      have hT0 := HLN.out
      rw [← hT0] at HANS
      clear hT0 HLN
      have a7 : ¬ 9223372036854775807 < T0.length + 0 := by have := HLN2.out; omega
      by_cases h32 : H.length ≤ 32
      · have q1 : ¬ (H.length : Int) > 32 := by omega
        by_cases h48 : T0.length ≤ 2048
        · have q2 : ¬ (T0.length : Int) > 2048 := by omega
          rw [if_pos ⟨h32, h48⟩] at HANS
          clear h32 h48 HLN2
          go_wp2
          go_ret2
          refine ⟨?_, HB5.out⟩
          rw [HANS.out]
          show Ending.returned (.tuple #[.string (⟨T0.toArray⟩ ++ ⟨([] : List UInt8).toArray⟩), .int .i64 0]) = .returned (.tuple #[.string ⟨(printedT (prLine Lib.itoa 304) H []).toArray⟩, .int .i64 0])
          rw [HPR.out, cat2]
        · have q2 : (T0.length : Int) > 2048 := by omega
          rw [if_neg (fun e => h48 e.2)] at HANS
          clear h32 h48 HLN2
          go_wp2
          go_ret2
          exact ⟨by rw [HANS.out]; rfl, HB5.out⟩
      · have q1 : (H.length : Int) > 32 := by omega
        rw [if_neg (fun e => h32 e.1)] at HANS
        clear h32 HLN2
        go_wp2
        go_ret2
        exact ⟨by rw [HANS.out]; rfl, HB5.out⟩
set_option maxRecDepth 20000 in
set_option maxHeartbeats 4000000 in
theorem Tryz.rPrintResponse_any {w : World} {V Y : Value} {L : List (List UInt8 × List UInt8)} {body : List UInt8} (st : Int) (h204 : ¬ st = 204) (h304 : ¬ st = 304) (hb0 : body.length ≤ 140737488355328) (last : Bool) (hV : Hs w V L) (hY : Bs w Y body) (hYl : ∀ k, Y.ownBlock = some k → k < w.heap.size) (hl : ∀ x ∈ L, x.1.length ≤ 140737488355328 ∧ x.2.length ≤ 140737488355328) (hL : L.length ≤ 4398046511000) (hT : (headText (prHeads Lib.itoa st L body last)).length ≤ 140737488355328) (hyes : mayPrint st L body = true) :
    Calls Tryz.prog 9 #[.agg #[.int .i64 st, V, Y, .bool last]] w fun e w' => e = .returned (.tuple #[.string ⟨(prAns Lib.itoa st L body last).1.toArray⟩, .int .i64 (prAns Lib.itoa st L body last).2]) ∧ Below w.heap.size w w' := by
  obtain ⟨adV, capV, eV, -⟩ := hV.ex
  subst eV
  obtain ⟨adY, capY, eY, -⟩ := hY.ex
  subst eY
  have hA : Below w.heap.size w (w.alloc (.cells #[.int .i64 st, .slice adV L.length capV, .slice adY body.length capY, .bool last] 36)) := (Below.refl _ w).alloc (Nat.le_refl _) _
  have hsz : (w.alloc (.cells #[.int .i64 st, .slice adV L.length capV, .slice adY body.length capY, .bool last] 36)).heap.size = w.heap.size + 1 := by simp
  have kf := Tryz.rFine_any (hV.below hA) (by omega) hl
  have p204 : (st == 204) = false := by simpa using h204
  have p304 : (st == 304) = false := by simpa using h304
  have hn0 : ((decide (200 ≤ st) && decide (st ≤ 599)) && !((st == 204 || st == 304) && decide (0 < body.length)) && mayStand L) = true := hyes
  simp only [Bool.and_eq_true, decide_eq_true_eq] at hn0
  obtain ⟨⟨⟨e1, e2⟩, -⟩, e4⟩ := hn0
  have q1 : ¬ st < 200 := by omega
  have q2 : ¬ st > 599 := by omega
  have HLE : Hid (lenH Lib.itoa st body = [(sCL, Lib.itoa body.length)]) := (by show (if (st == 204 || st == 304) then [] else [(sCL, Lib.itoa body.length)]) = _; rw [p204, p304]; rfl)
  clear h204 h304
  rw [e4] at kf
  have HANS : Hid (prAns Lib.itoa st L body last = if (prHeads Lib.itoa st L body last).length ≤ 32 ∧ headSize (prLine Lib.itoa st) (prHeads Lib.itoa st L body last) ≤ 2048 then (printedT (prLine Lib.itoa st) (prHeads Lib.itoa st L body last) body, 0) else ([], 181)) := (by show _ = _; unfold prAns; rw [if_pos hyes])
  have HC : Hid (∀ W, Below (w.heap.size + 1) (w.alloc (.cells #[.int .i64 st, .slice adV L.length capV, .slice adY body.length capY, .bool last] 36)) W → W.cell? ⟨w.heap.size, 0, none⟩ = some (.int .i64 st) ∧ W.cell? ⟨w.heap.size, 1, none⟩ = some (.slice adV L.length capV) ∧ W.cell? ⟨w.heap.size, 2, none⟩ = some (.slice adY body.length capY) ∧ W.cell? ⟨w.heap.size, 3, none⟩ = some (.bool last)) := fun W hW => by
    have hn := heap_alloc_new w (.cells #[.int .i64 st, .slice adV L.length capV, .slice adY body.length capY, .bool last] 36)
    exact ⟨(hW.cell (p := ⟨w.heap.size, 0, none⟩) (Nat.lt_succ_self _)).trans (cell_of_row _ _ 0 _ _ _ hn), (hW.cell (p := ⟨w.heap.size, 1, none⟩) (Nat.lt_succ_self _)).trans (cell_of_row _ _ 1 _ _ _ hn), (hW.cell (p := ⟨w.heap.size, 2, none⟩) (Nat.lt_succ_self _)).trans (cell_of_row _ _ 2 _ _ _ hn), (hW.cell (p := ⟨w.heap.size, 3, none⟩) (Nat.lt_succ_self _)).trans (cell_of_row _ _ 3 _ _ _ hn)⟩
  have HV : Hid (Hs w (.slice adV L.length capV) L) := hV
  have HY : Hid (∀ W, Below w.heap.size w W → Bs W (.slice adY body.length capY) body) := fun W hW => hY.below hW hYl
  have HA : Hid _ := hA
  have HS : Hid _ := hsz
  have HT : Hid _ := hT
  have HDG : Hid (∀ W, Calls Tryz.prog 28 #[.int .i64 st] W fun e w' => e = .returned (.string ⟨(Lib.itoa st).toArray⟩) ∧ Below W.heap.size W w') := fun W => (by
    have := Tryz.rDigits_any st.toNat (by omega) W
    rw [show ((st.toNat : Nat) : Int) = st by omega] at this
    exact this)
  have hdl : (Lib.itoa st).length ≤ 21 := Lib.itoa_length_le st (by omega) (by omega)
  clear hA hsz hV hY hYl hl hyes e4 hT
  go_enter Tryz.func9, Tryz.ntmps9
  go_upto_region 5 with (first | (go_at_call 25; refine kf.mono ?_; clear kf; rintro e w1 ⟨rfl, rfl⟩) | fail)
  clear p204 p304 q1 q2 e1 e2
  generalize hW0 : w.alloc _ = W0 at *
  have HBB : Hid (w.heap.size + 1 = W0.heap.size) := HS.out.symm
  clear hW0 HS
  have HB0 : Hid (∀ W, Below (w.heap.size + 1) W0 W → Below w.heap.size w W) := fun W hW => HA.out.trans (hW.mono (Nat.le_succ _))
  obtain ⟨B, hB⟩ : ∃ B, w.heap.size + 1 = B := ⟨_, rfl⟩
  rw [hB] at HC HBB HB0
  have HBE : Hid (w.heap.size + 1 = B) := hB
  clear hB
  obtain ⟨c0, c1, c2, c3⟩ := HC.out W0 (Below.refl _ _)
  have HZ8 : Hid (B ≤ W0.heap.size) := (by rw [HBB.out]; exact Nat.le_refl _)
  have HV8 : Hid _ := HV.out.below HA.out
  go_upto_if 49 with (first
    | (at_builtin; refine Tryz.appHs rfl _ _ rfl (L0 := []) (World.ownsRow_nil _ _ _ _) HZ8.out rfl HV8.out rfl (by omega) ?_; intro v9 w9 r9 b9; obtain ⟨d0, d1, d2, d3⟩ := HC.out w9 b9; rw [Nat.zero_add, List.nil_append] at r9; obtain ⟨ad9, cap9, e9, -⟩ := (Hs.ofRow r9).ex; subst e9)
    | fail)
  have HZ9 : Hid (B ≤ w9.heap.size) := (by have := b9.size; rw [← HBB.out] at this; exact this)
  have HR9 : Hid _ := r9
  have HB9 : Hid (Below B W0 w9) := b9
  clear r9 b9 c0 c1 c2 c3 HV8 HZ8
  have kd := Tryz.rDigits_any body.length (by omega)
  have HL9 : Hid (L.length + 1 ≤ 4398046511104) := (by show _ ≤ _; omega)
  go_cut [7] (fun fv wx => ∃ ad cap, fv = .slice ad (L ++ lenH Lib.itoa st body).length cap ∧ wx.ownsRow B 52 2 fv (L ++ lenH Lib.itoa st body).length (hdCells (L ++ lenH Lib.itoa st body)) ∧ Below B W0 wx)
  case first =>
    go_wp2_with (first
      | (go_at_call 28; refine (kd _).mono ?_; clear kd; rintro e w10 ⟨rfl, b10⟩; have h1 : Hs (w10.alloc (.cells #[.string ⟨#[99, 111, 110, 116, 101, 110, 116, 45, 108, 101, 110, 103, 116, 104]⟩, .string ⟨(Lib.itoa body.length).toArray⟩] 52)) (.slice (some ⟨w10.heap.size, 0, none⟩) 1 1) [(sCL, Lib.itoa body.length)] := Hs.one w10 _ sCL _; have hG : Below w10.heap.size w10 (w10.alloc (.cells #[.string ⟨#[99, 111, 110, 116, 101, 110, 116, 45, 108, 101, 110, 103, 116, 104]⟩, .string ⟨(Lib.itoa body.length).toArray⟩] 52)) := (Below.refl _ w10).alloc (Nat.le_refl _) _; have b11 := b10.trans (hG.mono b10.size); have HB11 : Hid _ := HB9.out.trans (b11.mono HZ9.out); have HR11 : Hid _ := row_past HR9.out b11; have HZ11 : Hid _ := Nat.le_trans HZ9.out b11.size; clear b10 hG b11)
      | (at_builtin; refine Tryz.appHs rfl _ _ rfl HR11.out HZ11.out rfl h1 rfl (by simpa using HL9.out) ?_; intro v12 w12 r12 b12)
      | fail)
    go_meet
    rw [HLE.out]
    obtain ⟨ad, cap, e2, -⟩ := (Hs.ofRow r12).ex
    refine ⟨ad, cap, e2, ?_, HB11.out.trans b12⟩
    rw [← List.length_append] at r12
    exact r12
  case rest =>
    obtain ⟨ad10, cap10, rfl, r10, b10⟩ := hcut
    have hlb : (lenH Lib.itoa st body).length ≤ 1 := lenH_len _ _ _
    have HX : Hid (L ++ lenH Lib.itoa st body ++ (if last then [(sCo, wClose)] else []) = prHeads Lib.itoa st L body last) := rfl
    have HHL : Hid ((prHeads Lib.itoa st L body last).length ≤ 4398046511104) := (by show (L ++ lenH Lib.itoa st body ++ (if last then [(sCo, wClose)] else [])).length ≤ _; rw [List.length_append, List.length_append]; have : (if last then [(sCo, wClose)] else [] : List (List UInt8 × List UInt8)).length ≤ 1 := (by split <;> simp); omega)
    have hN : (L ++ lenH Lib.itoa st body).length ≤ 4398046511002 := by rw [List.length_append]; omega
    generalize L ++ lenH Lib.itoa st body = H3 at *
    obtain ⟨c0, c1, c2, c3⟩ := HC.out wc b10
    have HZ10 : Hid (B ≤ wc.heap.size) := (by have := b10.size; rw [← HBB.out] at this; exact this)
    have HR10 : Hid _ := r10
    have HB10 : Hid (Below B W0 wc) := b10
    clear r10 b10 d0 d1 d2 d3 HR9 HB9 HZ9 hlb
    go_upto_if 59 with (fail)
    go_cut [7] (fun fv wx => ∃ ad cap, fv = .slice ad (H3 ++ (if last then [(sCo, wClose)] else [])).length cap ∧ wx.ownsRow B 52 2 fv (H3 ++ (if last then [(sCo, wClose)] else [])).length (hdCells (H3 ++ (if last then [(sCo, wClose)] else []))) ∧ Below B W0 wx)
    case first =>
      have h1 : Hs (wc.alloc (.cells #[.string ⟨#[99, 111, 110, 110, 101, 99, 116, 105, 111, 110]⟩, .string ⟨#[99, 108, 111, 115, 101]⟩] 52)) (.slice (some ⟨wc.heap.size, 0, none⟩) 1 1) [(sCo, wClose)] := Hs.one wc _ sCo wClose
      have hG : Below wc.heap.size wc (wc.alloc (.cells #[.string ⟨#[99, 111, 110, 110, 101, 99, 116, 105, 111, 110]⟩, .string ⟨#[99, 108, 111, 115, 101]⟩] 52)) := (Below.refl _ wc).alloc (Nat.le_refl _) _
      have HB11 : Hid _ := HB10.out.trans (hG.mono HZ10.out)
      have HR11 : Hid _ := row_past HR10.out hG
      have HZ11 : Hid _ := Nat.le_trans HZ10.out hG.size
      have HL11 : Hid (H3.length + 1 ≤ 4398046511104) := (by show _ ≤ _; omega)
      clear hG
      cases last with
      | true =>
        go_wp2_with (first
          | (at_builtin; refine Tryz.appHs rfl _ _ rfl HR11.out HZ11.out rfl h1 rfl (by simpa using HL11.out) ?_; intro v12 w12 r12 b12)
          | fail)
        go_meet
        obtain ⟨ad, cap, e2, -⟩ := (Hs.ofRow r12).ex
        refine ⟨ad, cap, e2, ?_, HB11.out.trans b12⟩
        rw [← List.length_append] at r12
        exact r12
      | false =>
        go_wp2
        go_meet
        have e : H3 ++ (if false = true then [(sCo, wClose)] else []) = H3 := by simp
        rw [e]
        exact ⟨_, _, rfl, HR10.out, HB10.out⟩
    case rest =>
      obtain ⟨ad13, cap13, rfl, r13, b13⟩ := hcut
      generalize H3 ++ (if last then [(sCo, wClose)] else []) = H at *
      rw [← HX.out] at HT HANS
      have hHl : H.length ≤ 4398046511104 := (by
        have h2 := HHL.out
        rw [← HX.out] at h2
        exact h2)
      obtain ⟨wA, hwA⟩ : ∃ x, x = wc := ⟨wc, rfl⟩
      subst hwA
      have hB13 := HB0.out wA b13
      have HH13 : Hid (Hs wA (.slice ad13 H.length cap13) H) := Hs.ofRow r13
      have HZ13 : Hid (w.heap.size + 1 ≤ wA.heap.size) := (by have e := HB0.out; have := b13.size; rw [← HBB.out] at this; rw [HBE.out]; exact this)
      have HKC : Hid (∀ W, Below wA.heap.size wA W → W.cell? ⟨w.heap.size, 0, none⟩ = some (.int .i64 st) ∧ W.cell? ⟨w.heap.size, 2, none⟩ = some (.slice adY body.length capY)) := fun W hW => (by
        have e := HC.out W (b13.trans (hW.mono (by rw [← HBE.out]; exact HZ13.out)))
        exact ⟨e.1, e.2.2.1⟩)
      have kl := fun (W : World) (hW : Below wA.heap.size wA W) => Tryz.rLines_any (HH13.out.below hW) (by omega) (Nat.le_trans HT.out (by omega))
      have kr := Tryz.rReason_any st
      have hrl := reason_len st
      have HB13 : Hid (Below w.heap.size w wA) := hB13
      have hTl := HT.out
      have HLN : Hid ((prLine Lib.itoa st ++ [13, 10] ++ headText H ++ [13, 10]).length = headSize (prLine Lib.itoa st) H) := head_len _ _
      have HPR : Hid (printedT (prLine Lib.itoa st) H body = (prLine Lib.itoa st ++ [13, 10] ++ headText H ++ [13, 10]) ++ body) := rfl
      have HCL : Hid (∀ h : List UInt8, (⟨#[72, 84, 84, 80, 47, 49, 46, 49, 32]⟩ : ByteArray) ++ ⟨(Lib.itoa st).toArray⟩ ++ ⟨#[32]⟩ ++ ⟨(reason st).toArray⟩ ++ ⟨#[13, 10]⟩ ++ ⟨h.toArray⟩ ++ ⟨#[13, 10]⟩ = ⟨(prLine Lib.itoa st ++ [13, 10] ++ h ++ [13, 10]).toArray⟩) := fun h => catStat _ _ h
      have HLN2 : Hid ((prLine Lib.itoa st ++ [13, 10] ++ headText H ++ [13, 10]).length + body.length ≤ 9223372036854775807) := (by
        show _ ≤ _
        unfold prLine
        simp only [List.length_append, List.length_cons, List.length_nil]
        omega)
      generalize hDS : Lib.itoa st = DS at *
      generalize hRS : reason st = RS at *
      generalize hTH : headText H = TH at *
      have z1 := text_size DS
      have z2 := text_size RS
      have z3 := text_size TH
      have a1 : ¬ 9223372036854775807 < 9 + DS.length := by omega
      have a2 : ¬ 9223372036854775807 < 9 + DS.length + 1 := by omega
      have a3 : ¬ 9223372036854775807 < 9 + DS.length + 1 + RS.length := by omega
      have a4 : ¬ 9223372036854775807 < 9 + DS.length + 1 + RS.length + 2 := by omega
      have a5 : ¬ 9223372036854775807 < 9 + DS.length + 1 + RS.length + 2 + TH.length := by omega
      have a6 : ¬ 9223372036854775807 < 9 + DS.length + 1 + RS.length + 2 + TH.length + 2 := by omega
      clear r13 b13 hB13 c0 c1 c2 c3 HR10 HB10 HZ10 HC HA HV hTH hDS hRS
      go_upto_region 11 with (fail)
      refine wp_region_quiet (C := fun W => Below wA.heap.size wA W) (by kernel_rfl) (by kernel_rfl) ⟨rfl, rfl, rfl, Nat.le_refl _, fun _ _ => rfl⟩ ?_
      dsimp only
      refine Go.Wb.q_valW (v := .pointer (some ⟨w.heap.size, 0, none⟩)) (by kernel_rfl) (fun W _ => by go_simp) ?_
      try simp only [Act.put, List.setIfInBounds_toArray, List.set_cons_zero, List.set_cons_succ]
      refine Go.Wb.q_valW (v := .int .i64 st) (by kernel_rfl) (fun W hW => by have c := (HKC.out W hW).1; go_simp) ?_
      try simp only [Act.put, List.setIfInBounds_toArray, List.set_cons_zero, List.set_cons_succ]
      refine Go.Wb.q_callW (v := .string ⟨DS.toArray⟩) (f := 28) (args := #[.int .i64 st]) (by kernel_rfl) (fun _ _ => by kernel_rfl) (fun W hW => (HDG.out W).mono fun _ _ ⟨h2, h3⟩ => ⟨h2, hW.trans (h3.mono hW.size)⟩) ?_
      try simp only [Act.put, List.setIfInBounds_toArray, List.set_cons_zero, List.set_cons_succ]
      refine Go.Wb.q_valW (v := .string ((⟨#[72, 84, 84, 80, 47, 49, 46, 49, 32]⟩ : ByteArray) ++ ⟨DS.toArray⟩)) (by kernel_rfl) (fun W _ => by go_simp) ?_
      try simp only [Act.put, List.setIfInBounds_toArray, List.set_cons_zero, List.set_cons_succ]
      refine Go.Wb.q_valW (v := .string ((⟨#[72, 84, 84, 80, 47, 49, 46, 49, 32]⟩ : ByteArray) ++ ⟨DS.toArray⟩ ++ ⟨#[32]⟩)) (by kernel_rfl) (fun W _ => by go_simp) ?_
      try simp only [Act.put, List.setIfInBounds_toArray, List.set_cons_zero, List.set_cons_succ]
      refine Go.Wb.q_valW (v := .pointer (some ⟨w.heap.size, 0, none⟩)) (by kernel_rfl) (fun W _ => by go_simp) ?_
      try simp only [Act.put, List.setIfInBounds_toArray, List.set_cons_zero, List.set_cons_succ]
      refine Go.Wb.q_valW (v := .int .i64 st) (by kernel_rfl) (fun W hW => by have c := (HKC.out W hW).1; go_simp) ?_
      try simp only [Act.put, List.setIfInBounds_toArray, List.set_cons_zero, List.set_cons_succ]
      refine Go.Wb.q_callW (v := .string ⟨RS.toArray⟩) (f := 12) (args := #[.int .i64 st]) (by kernel_rfl) (fun _ _ => by kernel_rfl) (fun W hW => (kr W).mono fun _ _ ⟨h2, h3⟩ => ⟨h2, by rw [h3]; exact hW⟩) ?_
      try simp only [Act.put, List.setIfInBounds_toArray, List.set_cons_zero, List.set_cons_succ]
      refine Go.Wb.q_valW (v := .string ((⟨#[72, 84, 84, 80, 47, 49, 46, 49, 32]⟩ : ByteArray) ++ ⟨DS.toArray⟩ ++ ⟨#[32]⟩ ++ ⟨RS.toArray⟩)) (by kernel_rfl) (fun W _ => by go_simp) ?_
      try simp only [Act.put, List.setIfInBounds_toArray, List.set_cons_zero, List.set_cons_succ]
      refine Go.Wb.q_valW (v := .string ((⟨#[72, 84, 84, 80, 47, 49, 46, 49, 32]⟩ : ByteArray) ++ ⟨DS.toArray⟩ ++ ⟨#[32]⟩ ++ ⟨RS.toArray⟩ ++ ⟨#[13, 10]⟩)) (by kernel_rfl) (fun W _ => by go_simp) ?_
      try simp only [Act.put, List.setIfInBounds_toArray, List.set_cons_zero, List.set_cons_succ]
      refine Go.Wb.q_valW (v := .slice ad13 H.length cap13) (by kernel_rfl) (fun _ _ => by kernel_rfl) ?_
      try simp only [Act.put, List.setIfInBounds_toArray, List.set_cons_zero, List.set_cons_succ]
      refine Go.Wb.q_callW (v := .string ⟨TH.toArray⟩) (f := 29) (args := #[.slice ad13 H.length cap13]) (by kernel_rfl) (fun _ _ => by kernel_rfl) (fun W hW => (kl W hW).mono fun _ _ ⟨h2, n2, h3⟩ => ⟨h2, by rw [h3]; exact belowN hW n2⟩) ?_
      try simp only [Act.put, List.setIfInBounds_toArray, List.set_cons_zero, List.set_cons_succ]
      refine Go.Wb.q_valW (v := .string ((⟨#[72, 84, 84, 80, 47, 49, 46, 49, 32]⟩ : ByteArray) ++ ⟨DS.toArray⟩ ++ ⟨#[32]⟩ ++ ⟨RS.toArray⟩ ++ ⟨#[13, 10]⟩ ++ ⟨TH.toArray⟩)) (by kernel_rfl) (fun W _ => by go_simp) ?_
      try simp only [Act.put, List.setIfInBounds_toArray, List.set_cons_zero, List.set_cons_succ]
      refine Go.Wb.q_valW (v := .string ((⟨#[72, 84, 84, 80, 47, 49, 46, 49, 32]⟩ : ByteArray) ++ ⟨DS.toArray⟩ ++ ⟨#[32]⟩ ++ ⟨RS.toArray⟩ ++ ⟨#[13, 10]⟩ ++ ⟨TH.toArray⟩ ++ ⟨#[13, 10]⟩)) (by kernel_rfl) (fun W _ => by go_simp) ?_
      try simp only [Act.put, List.setIfInBounds_toArray, List.set_cons_zero, List.set_cons_succ]
      refine Go.Wb.q_valW (v := .string ((⟨#[72, 84, 84, 80, 47, 49, 46, 49, 32]⟩ : ByteArray) ++ ⟨DS.toArray⟩ ++ ⟨#[32]⟩ ++ ⟨RS.toArray⟩ ++ ⟨#[13, 10]⟩ ++ ⟨TH.toArray⟩ ++ ⟨#[13, 10]⟩)) (by kernel_rfl) (fun _ _ => by kernel_rfl) ?_
      try simp only [Act.put, List.setIfInBounds_toArray, List.set_cons_zero, List.set_cons_succ]
      refine wpQuiet_nil ?_
      intro W5 hW5
      rw [HCL.out TH]
      clear HCL
      generalize prLine Lib.itoa st ++ [13, 10] ++ TH ++ [13, 10] = T0 at *
      have hcv := Tryz.conv_bs (HY.out _ (HB13.out.trans (hW5.mono HB13.out.size)))
      obtain ⟨d0, d2⟩ := HKC.out W5 hW5
      have HB5 : Hid (Below w.heap.size w W5) := HB13.out.trans (hW5.mono HB13.out.size)
      clear a1 a2 a3 a4 a5 a6 z1 z2 z3 kl kr hW5 HKC HY
      have z5 := text_size T0
      have hT0 := HLN.out
      rw [← hT0] at HANS
      clear hT0 HLN
      have a7 : ¬ 9223372036854775807 < T0.length + body.length := by have := HLN2.out; omega
      by_cases h32 : H.length ≤ 32
      · have q1 : ¬ (H.length : Int) > 32 := by omega
        by_cases h48 : T0.length ≤ 2048
        · have q2 : ¬ (T0.length : Int) > 2048 := by omega
          rw [if_pos ⟨h32, h48⟩] at HANS
          clear h32 h48 HLN2
          go_wp2
          go_ret2
          refine ⟨?_, HB5.out⟩
          rw [HANS.out]
          show Ending.returned (.tuple #[.string (⟨T0.toArray⟩ ++ ⟨body.toArray⟩), .int .i64 0]) = .returned (.tuple #[.string ⟨(printedT (prLine Lib.itoa st) H body).toArray⟩, .int .i64 0])
          rw [HPR.out, cat2]
        · have q2 : (T0.length : Int) > 2048 := by omega
          rw [if_neg (fun e => h48 e.2)] at HANS
          clear h32 h48 HLN2
          go_wp2
          go_ret2
          exact ⟨by rw [HANS.out]; rfl, HB5.out⟩
      · have q1 : (H.length : Int) > 32 := by omega
        rw [if_neg (fun e => h32 e.1)] at HANS
        clear h32 HLN2
        go_wp2
        go_ret2
        exact ⟨by rw [HANS.out]; rfl, HB5.out⟩
end Go.Proofs
namespace Go.Dg
open Go.RowKit Go.Wi
/-- A row of bytes of one's own, above a floor. -/
def Ob (w : World) (B : Nat) (V : Value) (l : List UInt8) : Prop :=
  (V = .slice none 0 0 ∧ l = []) ∨ ∃ g cap, V = .slice (some ⟨g, 0, none⟩) l.length cap ∧ B ≤ g ∧ g < w.heap.size ∧ l.length ≤ cap ∧ (∀ j u, (Lib.byteCells l)[j]? = some u → w.cell? ⟨g, j, none⟩ = some u) ∧ ∀ j, j < cap → (w.cell? ⟨g, j, none⟩).isSome = true ∧ w.frozen? ⟨g, j, none⟩ = false
theorem Ob.nil (w : World) (B : Nat) : Ob w B (.slice none 0 0) [] := .inl ⟨rfl, rfl⟩
theorem Ob.ofRow {w : World} {B n : Nat} {T : TypeId} {V : Value} {l : List UInt8} (h : w.ownsRow B T 1 V n (Lib.byteCells l)) : Ob w B V l := by
  have hn : n = l.length := by have := h.1; rw [byteCells_len] at this; omega
  subst hn
  rcases h.2 with ⟨h1, h2⟩ | ⟨g, cap, cur, rfl, hB, hg, h3, h4, h5, h6⟩
  · exact .inl ⟨h1, List.eq_nil_of_length_eq_zero h2⟩
  · refine .inr ⟨g, cap, rfl, hB, block_lt hg, h3, fun j u hu => ?_, fun j hj => ⟨?_, frozen_of_row _ _ _ _ _ hg⟩⟩
    · rw [cell_of_row _ _ _ _ _ _ hg]
      rw [← h6, List.getElem?_take] at hu
      split at hu
      · rw [← Array.getElem?_toList]; exact hu
      · cases hu
    · rw [cell_of_row _ _ _ _ _ _ hg, Array.getElem?_eq_getElem (by omega)]; rfl
theorem Ob.keep {w w' : World} {B : Nat} {V : Value} {l : List UInt8} (h : Ob w B V l) (hk : ∀ k, V.ownBlock = some k → w'.heap[k]? = w.heap[k]?) : Ob w' B V l := by
  rcases h with h | ⟨g, cap, rfl, h1, h2, h3, h4, h5⟩
  · exact .inl h
  · have e := hk g rfl
    have e2 : g < w'.heap.size := by
      rw [Array.getElem?_eq_getElem h2] at e
      exact block_lt e
    exact .inr ⟨g, cap, rfl, h1, e2, h3, fun j u hu => (World.cell?_of_block (a := ⟨g, j, none⟩) e).trans (h4 j u hu), fun j hj => ⟨by rw [World.cell?_of_block (a := ⟨g, j, none⟩) e]; exact (h5 j hj).1, (World.frozen?_of_block (a := ⟨g, j, none⟩) e).trans (h5 j hj).2⟩⟩
theorem Ob.lt {w : World} {B : Nat} {V : Value} {l : List UInt8} (h : Ob w B V l) : ∀ k, V.ownBlock = some k → B ≤ k ∧ k < w.heap.size := by
  rcases h with ⟨rfl, _⟩ | ⟨g, cap, rfl, h1, h2, _⟩
  · intro k e; cases e
  · intro k e; cases e; exact ⟨h1, h2⟩
theorem Ob.below {w w' : World} {B C : Nat} {V : Value} {l : List UInt8} (h : Ob w B V l) (g : Below C w w') (hC : w.heap.size ≤ C) : Ob w' B V l := h.keep fun k e => g.block k (Nat.lt_of_lt_of_le (h.lt k e).2 hC)
theorem Ob.alloc {w : World} {B : Nat} {V : Value} {l : List UInt8} (h : Ob w B V l) (o : Obj) : Ob (w.alloc o) B V l := h.below ((Below.refl _ w).alloc (Nat.le_refl _) o) (Nat.le_refl _)
theorem Ob.drew {w : World} {B : Nat} {V : Value} {l : List UInt8} (h : Ob w B V l) : Ob w.drew B V l := h
theorem Ob.drewN {w : World} {B : Nat} {V : Value} {l : List UInt8} (h : Ob w B V l) (n : Nat) : Ob (w.drewN n) B V l := h
theorem Ob.mono {w : World} {B B' : Nat} {V : Value} {l : List UInt8} (h : Ob w B V l) (hB : B' ≤ B) : Ob w B' V l := by
  rcases h with h | ⟨g, cap, rfl, h1, h2⟩
  · exact .inl h
  · exact .inr ⟨g, cap, rfl, Nat.le_trans hB h1, h2⟩
theorem Ob.is {w : World} {B : Nat} {V : Value} {l : List UInt8} (h : Ob w B V l) : ∃ ad cap, V = .slice ad l.length cap := by
  rcases h with ⟨rfl, rfl⟩ | ⟨g, cap, rfl, _⟩
  · exact ⟨none, 0, rfl⟩
  · exact ⟨_, _, rfl⟩
theorem Ob.bs {w : World} {B : Nat} {V : Value} {l : List UInt8} (h : Ob w B V l) : Bs w V l := by
  rcases h with ⟨rfl, rfl⟩ | ⟨g, cap, rfl, h1, h2, h3, h4, h5⟩
  · exact ⟨none, 0, rfl, Nat.le_refl _, fun _ => rfl, .inl rfl⟩
  · exact ⟨some ⟨g, 0, none⟩, cap, rfl, h3, (fun e => by cases e), .inr ⟨g, 0, rfl, h2, fun j u hu => by rw [Nat.zero_add]; exact h4 j u hu⟩⟩
theorem Ob.cell {w : World} {B g n cap : Nat} {l : List UInt8} (h : Ob w B (.slice (some ⟨g, 0, none⟩) n cap) l) {i : Nat} (hi : i < l.length) : w.cell? ⟨g, i, none⟩ = some (.int .u8 (l[i].toNat : Nat)) ∧ w.frozen? ⟨g, i, none⟩ = false := by
  rcases h with ⟨e, _⟩ | ⟨g', cap', e, h1, h2, h3, h4, h5⟩
  · injection e with e1; cases e1
  · injection e with e1 e2 e3
    injection e1 with e1
    injection e1 with e1
    subst e1
    exact ⟨h4 i _ (byteCell hi), (h5 i (by omega)).2⟩
theorem Ob.set {w : World} {B g n cap : Nat} {l : List UInt8} (h : Ob w B (.slice (some ⟨g, 0, none⟩) n cap) l) (i : Nat) (c : UInt8) (v : Int) (hv : v = (c.toNat : Nat)) (hi : i < l.length) : Ob (w.setCell ⟨g, i, none⟩ (.int .u8 v)) B (.slice (some ⟨g, 0, none⟩) n cap) (l.set i c) := by
  subst hv
  rcases h with ⟨e, _⟩ | ⟨g', cap', e, h1, h2, h3, h4, h5⟩
  · injection e with e1; cases e1
  · injection e with e1 e2 e3
    injection e1 with e1
    injection e1 with e1
    subst e1 e3
    obtain ⟨u0, hu0⟩ := Option.isSome_iff_exists.1 (h5 i (by omega)).1
    refine .inr ⟨g, cap, by rw [e2, List.length_set], h1, by simpa using h2, by rw [List.length_set]; exact h3, fun j u hu => ?_, fun j hj => ⟨?_, by rw [World.frozen?_setCell]; exact (h5 j hj).2⟩⟩
    · by_cases hji : j = i
      · subst hji
        rw [byteCell (by rw [List.length_set]; exact hi), List.getElem_set_self] at hu
        rw [World.cell?_setCell_same _ _ _ hu0]
        exact hu
      · rw [World.cell?_setCell_other _ _ _ _ (fun e => hji (by injection e with e1 e2; exact e2.symm))]
        refine h4 j u ?_
        have hj := (List.getElem?_eq_some_iff.1 hu).1
        rw [byteCells_len, List.length_set] at hj
        rw [byteCell (by rw [List.length_set]; exact hj), List.getElem_set_ne (Ne.symm hji)] at hu
        rw [byteCell hj]
        exact hu
    · by_cases hji : j = i
      · subst hji
        rw [World.cell?_setCell_same _ _ _ hu0]; rfl
      · rw [World.cell?_setCell_other _ _ _ _ (fun e => hji (by injection e with e1 e2; exact e2.symm))]
        exact (h5 j hj).1
theorem Ob.take {w : World} {B g n cap : Nat} {l : List UInt8} (h : Ob w B (.slice (some ⟨g, 0, none⟩) n cap) l) (m : Nat) (hm : m ≤ l.length) : Ob w B (.slice (some ⟨g, 0, none⟩) m cap) (l.take m) := by
  rcases h with ⟨e, _⟩ | ⟨g', cap', e, h1, h2, h3, h4, h5⟩
  · injection e with e1; cases e1
  · injection e with e1 e2 e3
    injection e1 with e1
    injection e1 with e1
    subst e1 e3
    have hl : (l.take m).length = m := by rw [List.length_take]; omega
    refine .inr ⟨g, cap, by rw [hl], h1, h2, by omega, fun j u hu => ?_, h5⟩
    refine h4 j u ?_
    simp only [Lib.byteCells, List.getElem?_map, List.getElem?_take] at hu ⊢
    split at hu
    · exact hu
    · cases hu
end Go.Dg
namespace Go.Proofs
open Go.RowKit Go.Wi Go.Dg
theorem Dg.setCells_wo (g : Nat) : ∀ (vs : List Value) (o : Nat) (w : World), Wo (fun k => k = g) w (w.setCells g o vs)
  | [], _, w => Wo.refl _ w
  | v :: r, o, w => ((Wo.refl (fun k => k = g) w).setCell g o v (.inl rfl)).trans (Dg.setCells_wo g r (o + 1) _)
end Go.Proofs
namespace Go.Dg
open Go.RowKit Go.Wi
/-- A row of things of one cell each, of one's own, above a floor. -/
def Ov (w : World) (B : Nat) (V : Value) (vs : List Value) : Prop :=
  (V = .slice none 0 0 ∧ vs = []) ∨ ∃ g cap, V = .slice (some ⟨g, 0, none⟩) vs.length cap ∧ B ≤ g ∧ g < w.heap.size ∧ vs.length ≤ cap ∧ (∀ j u, vs[j]? = some u → w.cell? ⟨g, j, none⟩ = some u) ∧ ∀ j, j < cap → (w.cell? ⟨g, j, none⟩).isSome = true ∧ w.frozen? ⟨g, j, none⟩ = false
theorem Ov.nil (w : World) (B : Nat) : Ov w B (.slice none 0 0) [] := .inl ⟨rfl, rfl⟩
theorem Ov.ofRow {w : World} {B n : Nat} {T : TypeId} {V : Value} {l : List Value} (h : w.ownsRow B T 1 V n l) : Ov w B V l := by
  have hn : n = l.length := by have := h.1; omega
  subst hn
  rcases h.2 with ⟨h1, h2⟩ | ⟨g, cap, cur, rfl, hB, hg, h3, h4, h5, h6⟩
  · exact .inl ⟨h1, List.eq_nil_of_length_eq_zero h2⟩
  · refine .inr ⟨g, cap, rfl, hB, block_lt hg, h3, fun j u hu => ?_, fun j hj => ⟨?_, frozen_of_row _ _ _ _ _ hg⟩⟩
    · rw [cell_of_row _ _ _ _ _ _ hg]
      rw [← h6, List.getElem?_take] at hu
      split at hu
      · rw [← Array.getElem?_toList]; exact hu
      · cases hu
    · rw [cell_of_row _ _ _ _ _ _ hg, Array.getElem?_eq_getElem (by omega)]; rfl
theorem Ov.keep {w w' : World} {B : Nat} {V : Value} {l : List Value} (h : Ov w B V l) (hk : ∀ k, V.ownBlock = some k → w'.heap[k]? = w.heap[k]?) : Ov w' B V l := by
  rcases h with h | ⟨g, cap, rfl, h1, h2, h3, h4, h5⟩
  · exact .inl h
  · have e := hk g rfl
    have e2 : g < w'.heap.size := by
      rw [Array.getElem?_eq_getElem h2] at e
      exact block_lt e
    exact .inr ⟨g, cap, rfl, h1, e2, h3, fun j u hu => (World.cell?_of_block (a := ⟨g, j, none⟩) e).trans (h4 j u hu), fun j hj => ⟨by rw [World.cell?_of_block (a := ⟨g, j, none⟩) e]; exact (h5 j hj).1, (World.frozen?_of_block (a := ⟨g, j, none⟩) e).trans (h5 j hj).2⟩⟩
theorem Ov.lt {w : World} {B : Nat} {V : Value} {l : List Value} (h : Ov w B V l) : ∀ k, V.ownBlock = some k → B ≤ k ∧ k < w.heap.size := by
  rcases h with ⟨rfl, _⟩ | ⟨g, cap, rfl, h1, h2, _⟩
  · intro k e; cases e
  · intro k e; cases e; exact ⟨h1, h2⟩
theorem Ov.below {w w' : World} {B C : Nat} {V : Value} {l : List Value} (h : Ov w B V l) (g : Below C w w') (hC : w.heap.size ≤ C) : Ov w' B V l := h.keep fun k e => g.block k (Nat.lt_of_lt_of_le (h.lt k e).2 hC)
theorem Ov.mono {w : World} {B B' : Nat} {V : Value} {l : List Value} (h : Ov w B V l) (hB : B' ≤ B) : Ov w B' V l := by
  rcases h with h | ⟨g, cap, rfl, h1, h2⟩
  · exact .inl h
  · exact .inr ⟨g, cap, rfl, Nat.le_trans hB h1, h2⟩
theorem Ov.is {w : World} {B : Nat} {V : Value} {l : List Value} (h : Ov w B V l) : ∃ ad cap, V = .slice ad l.length cap := by
  rcases h with ⟨rfl, rfl⟩ | ⟨g, cap, rfl, _⟩
  · exact ⟨none, 0, rfl⟩
  · exact ⟨_, _, rfl⟩
theorem Ov.at {w : World} {B : Nat} {V : Value} {l : List Value} (h : Ov w B V l) (hl : 0 < l.length) : ∃ g cap, V = .slice (some ⟨g, 0, none⟩) l.length cap ∧ ∀ j u, l[j]? = some u → w.cell? ⟨g, j, none⟩ = some u := by
  rcases h with ⟨rfl, rfl⟩ | ⟨g, cap, rfl, h1, h2, h3, h4, h5⟩
  · simp at hl
  · exact ⟨g, cap, rfl, h4⟩
end Go.Dg
namespace Go.Proofs
open Go.RowKit Go.Wi Go.Dg
/-- 'append' of some things, which lie in a block, to a row of one's own. -/
theorem Dg.ov_app {P : Program} {t e : TypeId} {i : TypeInfo} {z : Value} {bytes : Nat} (ty : TypeId) (ht : P.underlying t = some (.slice e)) (hi : P.info? e = some i) (hz : i.zero = some z) (hz1 : i.size = 1) (hz2 : i.bytes = bytes) (hzs : z.cells.size = 1)
    {w : World} {B : Nat} {V : Value} {l : List Value} (h : Ov w B V l) (hB : B ≤ w.heap.size) (xs : List Value) (k g0 : Nat) (hk : k = xs.length) (h0 : 0 < k)
    (hnb : w.heap[g0]? = some (.cells xs.toArray e (0, 0))) (hone : ∀ u ∈ xs, u.oneCell' = true) (hlen : (l.length + xs.length) * bytes ≤ 140737488355328) (hmax : l.length + xs.length ≤ maxLen) :
    ∃ ad cap w1, (Builtin.append_ #[t, t] ty #[V, .slice (some ⟨g0, 0, none⟩) k k]).run P w = .ok (.slice ad (l.length + k : Nat) cap) w1 ∧ Ov w1 B (.slice ad (l.length + k : Nat) cap) (l ++ xs) ∧ ((∃ g, V = .slice (some ⟨g, 0, none⟩) l.length cap ∧ ad = some ⟨g, 0, none⟩ ∧ Wo (fun k => k = g) w w1) ∨ (Below w.heap.size w w1 ∧ ∀ k', (Value.slice ad (l.length + k : Nat) cap).ownBlock = some k' → w.heap.size ≤ k')) := by
  subst hk
  have hnews : ∀ (j : Nat) u, xs[j]? = some u → w.cell? ((⟨g0, 0, none⟩ : Addr).add j) = some u := World.news_of_block (cs := xs.toArray) hnb
  have grown : ∀ v' w', w'.ownsRow w.heap.size e 1 v' (l.length + xs.length) (l ++ xs) → w.grownBy w' none →
      ∃ ad cap, v' = .slice ad (l.length + xs.length : Nat) cap ∧ Ov w' B v' (l ++ xs) ∧ Below w.heap.size w w' ∧ ∀ k', v'.ownBlock = some k' → w.heap.size ≤ k' := by
    intro v' w' ho hg
    have h1 := Ov.ofRow ho
    obtain ⟨ad, cap, e⟩ := h1.is
    rw [List.length_append] at e
    exact ⟨ad, cap, e, h1.mono hB, Wo.toBelow (own := fun _ => False) (Below.refl _ w) ((Wo.refl _ w).grown hg (fun k e => by cases e)) (fun _ e => e.elim) (Nat.le_refl _), fun k' e' => (h1.lt k' e').1⟩
  rcases h with ⟨rfl, rfl⟩ | ⟨g, cap, rfl, h1, h2, h3, h4, h5⟩
  · obtain ⟨v', w', hrun, r1, r2, _⟩ := run_append_own (P := P) w w.heap.size t ty e i _ 1 bytes ht hi hz hz1 hz2 hzs (by omega) (.slice none 0 0) 0 [] (World.ownsRow_nil w _ _ _) ⟨g0, 0, none⟩ xs.length xs.length xs (by omega) hnews hone (by simpa using hmax) (by simpa using hlen) (Nat.le_refl _)
    obtain ⟨ad, cap, rfl, g1, g2, g3⟩ := grown v' w' r1 r2
    exact ⟨ad, cap, w', hrun, g1, .inr ⟨g2, g3⟩⟩
  · by_cases hr : l.length + xs.length ≤ cap
    · have hsp : ∀ j, j < xs.length → (w.cell? ⟨g, 0 + l.length * i.size + j, none⟩).isSome = true ∧ w.frozen? ⟨g, 0 + l.length * i.size + j, none⟩ = false := fun j hj => by
        rw [hz1]
        exact h5 _ (by omega)
      have hrun := run_append_room_cells (P := P) w t ty e i ht hi g 0 l.length cap ⟨g0, 0, none⟩ xs.length xs.length xs (by rw [hz1]; omega) hnews hone hr (fun j hj => (hsp j hj).1) (fun j hj => (hsp j hj).2)
      have hwo := Dg.setCells_wo g xs (0 + l.length * i.size) w
      rw [hz1, Nat.zero_add, Nat.mul_one] at hrun hwo
      refine ⟨_, cap, _, hrun, .inr ⟨g, cap, by rw [List.length_append], h1, Nat.lt_of_lt_of_le h2 hwo.size, by rw [List.length_append]; exact hr, fun j u hu => ?_, fun j hj => ⟨World.isSome_setCells g _ _ w _ (h5 j hj).1, by rw [World.frozen?_setCells]; exact (h5 j hj).2⟩⟩, .inl ⟨g, rfl, rfl, hwo⟩⟩
      by_cases hj : j < l.length
      · rw [World.cell?_setCells_out g _ _ w _ fun _ _ => .inl hj]
        rw [List.getElem?_append_left (by omega)] at hu
        exact h4 j u hu
      · rw [List.getElem?_append_right (by omega)] at hu
        obtain ⟨hj2, e⟩ := List.getElem?_eq_some_iff.1 hu
        have := World.cell?_setCells_in g xs l.length w (fun i hi => (h5 _ (by omega)).1) (j - l.length) hj2
        rw [show l.length + (j - l.length) = j by omega, e] at this
        exact this
    · obtain ⟨v', w', hrun, r1, r2⟩ := run_append_arg_grows (P := P) w t ty e i _ 1 bytes ht hi hz hz1 hz2 hzs (by omega) ⟨g, 0, none⟩ l.length cap l (by omega) (fun j u hj => by rw [Addr.add_mid, Nat.zero_add]; exact h4 j u hj) ⟨g0, 0, none⟩ xs.length xs.length xs (by omega) hnews (by omega) hmax hlen
      obtain ⟨ad, cap', rfl, g1, g2, g3⟩ := grown v' w' r1 r2
      exact ⟨ad, cap', w', hrun, g1, .inr ⟨g2, g3⟩⟩
/-- At a step of a region. -/
theorem Dg.appV {P : Program} {ops : Array Oper} {rest : List Oper} {o : Oper} {a : Act} {Q : Exit → Act → World → Prop} {t e : TypeId} {i : TypeInfo} {z : Value} {bytes : Nat} (hgd : o.guard = none) (s y : Operand)
    (ho : o.op = .call { callee := .builtin .append, args := #[s, y], argTypes := #[t, t] }) (ht : P.underlying t = some (.slice e)) (hi : P.info? e = some i) (hz : i.zero = some z) (hz1 : i.size = 1) (hz2 : i.bytes = bytes) (hzs : z.cells.size = 1)
    {w : World} {B : Nat} {V : Value} {l : List Value} (h : Ov w B V l) (hB : B ≤ w.heap.size) (hs : a.eval s = V) (xs : List Value) (k g0 : Nat) (hy : a.eval y = .slice (some ⟨g0, 0, none⟩) k k) (hk : k = xs.length) (h0 : 0 < k)
    (hnb : w.heap[g0]? = some (.cells xs.toArray e (0, 0))) (hone : ∀ u ∈ xs, u.oneCell' = true) (hlen : (l.length + xs.length) * bytes ≤ 140737488355328) (hmax : l.length + xs.length ≤ maxLen)
    (hK : ∀ ad cap w1, Ov w1 B (.slice ad (l.length + k : Nat) cap) (l ++ xs) → ((∃ g, V = .slice (some ⟨g, 0, none⟩) l.length cap ∧ ad = some ⟨g, 0, none⟩ ∧ Wo (fun k => k = g) w w1) ∨ (Below w.heap.size w w1 ∧ ∀ k', (Value.slice ad (l.length + k : Nat) cap).ownBlock = some k' → w.heap.size ≤ k')) → wpList P ops Q rest (a.put o.dst (.slice ad (l.length + k : Nat) cap)) w1) : wpList P ops Q (o :: rest) a w :=
  wpList_plain hgd fun _ hk' => by
    obtain ⟨ad, cap, w1, hrun, h1, h2⟩ := Dg.ov_app o.type ht hi hz hz1 hz2 hzs h hB xs k g0 hk h0 hnb hone hlen hmax
    unfold Oper.wp
    simp [execOp, ho, resolve, invoke, builtin, hs, hy, hrun, Result.andThen]
    exact hk' _ _ (hK ad cap w1 h1 h2)
end Go.Proofs
namespace Go.Dg
open Go.RowKit Go.Wi
theorem Ob.ov {w : World} {B : Nat} {V : Value} {l : List UInt8} (h : Ob w B V l) : Ov w B V (Lib.byteCells l) := by
  rcases h with ⟨rfl, rfl⟩ | ⟨g, cap, rfl, h1, h2, h3, h4, h5⟩
  · exact .inl ⟨rfl, rfl⟩
  · exact .inr ⟨g, cap, by rw [byteCells_len], h1, h2, by rw [byteCells_len]; exact h3, h4, h5⟩
theorem Ov.ob {w : World} {B : Nat} {V : Value} {l : List UInt8} (h : Ov w B V (Lib.byteCells l)) : Ob w B V l := by
  rcases h with ⟨rfl, h0⟩ | ⟨g, cap, rfl, h1, h2, h3, h4, h5⟩
  · exact .inl ⟨rfl, List.eq_nil_of_length_eq_zero (by rw [← byteCells_len, h0]; rfl)⟩
  · exact .inr ⟨g, cap, by rw [byteCells_len], h1, h2, by rw [byteCells_len] at h3; exact h3, h4, h5⟩
/-- Texts, and rows of bytes, held; two rows that are not of one family share no block. -/
structure Ls (w0 : World) (tv lv : Value) (ts vs : List Value) (bs : Nat → List UInt8) (w : World) : Prop where
  b : Below w0.heap.size w0 w
  t : Ov w w0.heap.size tv ts
  l : Ov w w0.heap.size lv vs
  o : ∀ (j : Nat) (v : Value), vs[j]? = some v → Ob w w0.heap.size v (bs j)
  d : ∀ (i j : Nat) (vi vj : Value) (k : Nat), vs[i]? = some vi → vs[j]? = some vj → i % 4 ≠ j % 4 → vi.ownBlock = some k → vj.ownBlock ≠ some k
  x : ∀ (j : Nat) (v : Value) (k : Nat), vs[j]? = some v → v.ownBlock = some k → tv.ownBlock ≠ some k ∧ lv.ownBlock ≠ some k
  y : ∀ k, tv.ownBlock = some k → lv.ownBlock ≠ some k
  z : ∀ j, (bs j).length ≤ 8000000
section
variable {w0 w w' : World} {tv lv : Value} {ts vs : List Value} {bs : Nat → List UInt8}
theorem Ls.keep (h : Ls w0 tv lv ts vs bs w) (hb : Below w0.heap.size w0 w') (ht : ∀ k, tv.ownBlock = some k → w'.heap[k]? = w.heap[k]?) (hl : ∀ k, lv.ownBlock = some k → w'.heap[k]? = w.heap[k]?) (hv : ∀ (j : Nat) (v : Value) (k : Nat), vs[j]? = some v → v.ownBlock = some k → w'.heap[k]? = w.heap[k]?) : Ls w0 tv lv ts vs bs w' :=
  ⟨hb, h.t.keep ht, h.l.keep hl, fun j v e => (h.o j v e).keep fun k e' => hv j v k e e', h.d, h.x, h.y, h.z⟩
theorem Ls.below (h : Ls w0 tv lv ts vs bs w) (g : Below w.heap.size w w') : Ls w0 tv lv ts vs bs w' :=
  h.keep (h.b.trans (g.mono h.b.size)) (fun k e => g.block k (h.t.lt k e).2) (fun k e => g.block k (h.l.lt k e).2) fun j v k e e' => g.block k ((h.o j v e).lt k e').2
theorem Ls.start (w0 : World) : Ls w0 (.slice none 0 0) (.slice none 0 0) [] [] (fun _ => []) w0 :=
  ⟨Below.refl _ _, Ov.nil _ _, Ov.nil _ _, (fun j v e => by cases e), (fun i j vi vj k e => by cases e), (fun j v k e => by cases e), (fun k e => by cases e), fun _ => Nat.zero_le _⟩
/-- More texts, while nothing is held. -/
theorem Ls.texts (h : Ls w0 tv (.slice none 0 0) ts [] bs w) {tv' : Value} {ts' : List Value} (h1 : Ov w' w0.heap.size tv' ts') (hb : Below w0.heap.size w0 w') : Ls w0 tv' (.slice none 0 0) ts' [] bs w' :=
  ⟨hb, h1, .inl ⟨rfl, rfl⟩, (fun j v e => by cases e), (fun i j vi vj k e => by cases e), (fun j v k e => by cases e), (fun k _ e => by cases e), h.z⟩
/-- One more is held. -/
theorem Ls.push (h : Ls w0 tv lv ts vs bs w) {x : Value} {bx : List UInt8} (hx : Ob w w0.heap.size x bx) (hd : ∀ (j : Nat) (v : Value) (k : Nat), vs[j]? = some v → j % 4 ≠ vs.length % 4 → v.ownBlock = some k → x.ownBlock ≠ some k)
    (hxt : ∀ k, x.ownBlock = some k → tv.ownBlock ≠ some k ∧ lv.ownBlock ≠ some k) (hz : bx.length ≤ 8000000) {ad : Option Addr} {n cap : Nat} (h1 : Ov w' w0.heap.size (.slice ad n cap) (vs ++ [x]))
    (hc : (∃ g, lv = .slice (some ⟨g, 0, none⟩) vs.length cap ∧ ad = some ⟨g, 0, none⟩ ∧ Wo (fun k => k = g) w w') ∨ (Below w.heap.size w w' ∧ ∀ k', (Value.slice ad n cap).ownBlock = some k' → w.heap.size ≤ k')) :
    Ls w0 tv (.slice ad n cap) ts (vs ++ [x]) (fun j => if j = vs.length then bx else bs j) w' := by
  have hsz := h.b.size
  have split : ∀ {j : Nat} {v : Value}, (vs ++ [x])[j]? = some v → (j < vs.length ∧ vs[j]? = some v) ∨ (j = vs.length ∧ v = x) := by
    intro j v e
    by_cases hj : j < vs.length
    · rw [List.getElem?_append_left hj] at e; exact .inl ⟨hj, e⟩
    · rw [List.getElem?_append_right (by omega)] at e
      have h9 := (List.getElem?_eq_some_iff.1 e).1
      have hj' : j = vs.length := by simp at h9; omega
      subst hj'
      simp at e
      exact .inr ⟨rfl, e.symm⟩
  have key : Below w0.heap.size w0 w' ∧ (∀ k, lv.ownBlock ≠ some k → k < w.heap.size → w'.heap[k]? = w.heap[k]?) ∧ ∀ k, (Value.slice ad n cap).ownBlock = some k → lv.ownBlock = some k ∨ w.heap.size ≤ k := by
    rcases hc with ⟨g, e1, e2, hw⟩ | ⟨hb, hf⟩
    · have hg := (h.l.lt g (by rw [e1]; rfl)).1
      refine ⟨Wo.toBelow h.b hw (fun k e => by rw [e]; exact hg) hsz, fun k hk hl => hw.block k hl fun e => hk (by rw [e1, e]; rfl), fun k e => .inl (by rw [e1]; rw [e2] at e; exact e)⟩
    · exact ⟨h.b.trans (hb.mono hsz), fun k _ hl => hb.block k hl, fun k e => .inr (hf k e)⟩
  obtain ⟨k1, k2, k3⟩ := key
  refine ⟨k1, h.t.keep fun k e => k2 k (h.y k e) (h.t.lt k e).2, h1, fun j v e => ?_, fun i j vi vj k ei ej hn eo => ?_, fun j v k e eo => ?_, fun k e eo => ?_, fun j => ?_⟩
  · rcases split e with ⟨hj, e⟩ | ⟨hj, rfl⟩
    · rw [if_neg (by omega)]
      exact (h.o j v e).keep fun k e' => k2 k (h.x j v k e e').2 ((h.o j v e).lt k e').2
    · rw [if_pos hj]
      exact hx.keep fun k e' => k2 k (hxt k e').2 (hx.lt k e').2
  · rcases split ei with ⟨hi, e1⟩ | ⟨hi, e1⟩
    · rcases split ej with ⟨hj, e2⟩ | ⟨hj, e2⟩
      · exact h.d i j vi vj k e1 e2 hn eo
      · rw [e2]
        exact hd i vi k e1 (by rw [← hj]; exact hn) eo
    · rcases split ej with ⟨hj, e2⟩ | ⟨hj, e2⟩
      · rw [e1] at eo
        exact fun e3 => hd j vj k e2 (by rw [← hi]; exact fun e => hn e.symm) e3 eo
      · exact absurd (by rw [hi, hj]) hn
  · have : tv.ownBlock ≠ some k ∧ lv.ownBlock ≠ some k ∧ k < w.heap.size := by
      rcases split e with ⟨hj, e⟩ | ⟨hj, rfl⟩
      · exact ⟨(h.x j v k e eo).1, (h.x j v k e eo).2, ((h.o j v e).lt k eo).2⟩
      · exact ⟨(hxt k eo).1, (hxt k eo).2, (hx.lt k eo).2⟩
    exact ⟨this.1, fun e2 => by rcases k3 k e2 with e3 | e3; exact this.2.1 e3; omega⟩
  · have := (h.t.lt k e).2
    rcases k3 k eo with e3 | e3
    · exact h.y k e e3
    · omega
  · split
    · exact hz
    · exact h.z j
/-- One byte of one of them is written over. -/
theorem Ls.set (h : Ls w0 tv lv ts vs bs w) {i k g n cap : Nat} {c : UInt8} {v : Int} (hl : vs.length ≤ 4) (hi : vs[i]? = some (.slice (some ⟨g, 0, none⟩) n cap)) (hv : v = (c.toNat : Nat)) (hk : k < (bs i).length) :
    Ls w0 tv lv ts vs (fun j => if j = i then (bs i).set k c else bs j) (w.setCell ⟨g, k, none⟩ (.int .u8 v)) := by
  have hg := (h.o i _ hi).lt g rfl
  have hw : Wo (fun j => j = g) w (w.setCell ⟨g, k, none⟩ (.int .u8 v)) := (Wo.refl _ w).setCell g k _ (.inl rfl)
  have hil := (List.getElem?_eq_some_iff.1 hi).1
  have hx := h.x i _ g hi rfl
  refine ⟨Wo.toBelow h.b hw (fun j e => by rw [e]; exact hg.1) h.b.size, h.t.keep fun j e => hw.block j (h.t.lt j e).2 (fun e' => hx.1 (by rw [← e']; exact e)), h.l.keep fun j e => hw.block j (h.l.lt j e).2 (fun e' => hx.2 (by rw [← e']; exact e)), fun j u e => ?_, h.d, h.x, h.y, fun j => ?_⟩
  · by_cases hj : j = i
    · subst hj
      rw [if_pos rfl]
      rw [hi] at e
      cases e
      exact (h.o j _ hi).set k c v hv hk
    · rw [if_neg hj]
      have hjl := (List.getElem?_eq_some_iff.1 e).1
      exact (h.o j u e).keep fun q e' => hw.block q ((h.o j u e).lt q e').2 fun e2 => h.d j i u _ q e hi (by omega) e' (by rw [e2]; rfl)
  · split
    · rw [List.length_set]; exact h.z i
    · exact h.z j
end
/-- One of them is grown. -/
structure Gr (w0 : World) (tv lv : Value) (ts vs : List Value) (bs : Nat → List UInt8) (i : Nat) (gv : Value) (gl : List UInt8) (w : World) : Prop where
  s : Ls w0 tv lv ts vs bs w
  g : Ob w w0.heap.size gv gl
  d : ∀ (j : Nat) (v : Value) (k : Nat), vs[j]? = some v → j % 4 ≠ i % 4 → v.ownBlock = some k → gv.ownBlock ≠ some k
  x : ∀ k, gv.ownBlock = some k → tv.ownBlock ≠ some k ∧ lv.ownBlock ≠ some k
  u : ∀ j, j < vs.length → j % 4 = i % 4 → j = i
  f : (∃ g n cap m, vs[i]? = some (.slice (some ⟨g, 0, none⟩) n cap) ∧ gv = .slice (some ⟨g, 0, none⟩) m cap ∧ bs i = gl.take n ∧ n ≤ gl.length) ∨ ∀ (v : Value) (k : Nat), vs[i]? = some v → v.ownBlock = some k → gv.ownBlock ≠ some k
section
variable {w0 w w' : World} {tv lv gv : Value} {ts vs : List Value} {bs : Nat → List UInt8} {i : Nat} {gl : List UInt8}
theorem Gr.start (h : Ls w0 tv lv ts vs bs w) (hi : vs[i]? = some gv) (hu : ∀ j, j < vs.length → j % 4 = i % 4 → j = i) : Gr w0 tv lv ts vs bs i gv (bs i) w := by
  refine ⟨h, h.o i _ hi, fun j v k e hn eo => h.d j i v gv k e hi hn eo, fun k e => h.x i gv k hi e, hu, ?_⟩
  rcases h.o i _ hi with ⟨rfl, h1⟩ | ⟨g, cap, rfl, h1⟩
  · exact .inr fun v k _ _ e => by cases e
  · exact .inl ⟨g, _, cap, _, hi, rfl, by rw [List.take_length], Nat.le_refl _⟩
theorem Gr.below (h : Gr w0 tv lv ts vs bs i gv gl w) (hb : Below w.heap.size w w') : Gr w0 tv lv ts vs bs i gv gl w' := ⟨h.s.below hb, h.g.below hb (Nat.le_refl _), h.d, h.x, h.u, h.f⟩
theorem Gr.app (h : Gr w0 tv lv ts vs bs i gv gl w) {ad : Option Addr} {n cap : Nat} {m : UInt8} (h1 : Ob w' w0.heap.size (.slice ad n cap) (gl ++ [m]))
    (hc : (∃ g, gv = .slice (some ⟨g, 0, none⟩) gl.length cap ∧ ad = some ⟨g, 0, none⟩ ∧ Wo (fun k => k = g) w w') ∨ (Below w.heap.size w w' ∧ ∀ k', (Value.slice ad n cap).ownBlock = some k' → w.heap.size ≤ k')) :
    Gr w0 tv lv ts vs bs i (.slice ad n cap) (gl ++ [m]) w' := by
  rcases hc with ⟨g, rfl, rfl, hw⟩ | ⟨hb, hf⟩
  · have hg := h.g.lt g rfl
    have hx := h.x g rfl
    refine ⟨⟨Wo.toBelow h.s.b hw (fun k e => by rw [e]; exact hg.1) h.s.b.size, h.s.t.keep fun k e => hw.block k (h.s.t.lt k e).2 (fun e' => hx.1 (by rw [← e']; exact e)), h.s.l.keep fun k e => hw.block k (h.s.l.lt k e).2 (fun e' => hx.2 (by rw [← e']; exact e)), fun j v e => ?_, h.s.d, h.s.x, h.s.y, h.s.z⟩, h1, fun j v k e hn eo => h.d j v k e hn eo, fun k e => h.x k e, h.u, ?_⟩
    · have hjl := (List.getElem?_eq_some_iff.1 e).1
      by_cases hj : j = i
      · subst hj
        rcases h.f with ⟨g', n', cap', m', e1, e2, e3, e4⟩ | hr
        · rw [e1] at e
          cases e
          injection e2 with e5 e6 e7
          injection e5 with e5
          injection e5 with e5
          subst e5 e7
          have h2 := h1.take n' (by rw [List.length_append]; omega)
          rw [List.take_append_of_le_length e4, ← e3] at h2
          exact h2
        · exact (h.s.o j v e).keep fun k e' => hw.block k ((h.s.o j v e).lt k e').2 fun e2 => hr v k e e' (by rw [e2]; rfl)
      · exact (h.s.o j v e).keep fun k e' => hw.block k ((h.s.o j v e).lt k e').2 fun e2 => h.d j v k e (fun e3 => hj (h.u j hjl e3)) e' (by rw [e2]; rfl)
    · rcases h.f with ⟨g', n', cap', m', e1, e2, e3, e4⟩ | hr
      · injection e2 with e5 e6 e7
        injection e5 with e5
        injection e5 with e5
        subst e5 e7
        exact .inl ⟨g, n', cap, n, e1, rfl, by rw [List.take_append_of_le_length e4]; exact e3, by rw [List.length_append]; omega⟩
      · exact .inr fun v k e eo => hr v k e eo
  · have hs := h.s.below hb
    have hsz := h.s.b.size
    refine ⟨hs, h1, fun j v k e _ eo e2 => ?_, fun k e => ⟨fun e2 => ?_, fun e2 => ?_⟩, h.u, .inr fun v k e eo e2 => ?_⟩
    · have := ((h.s.o j v e).lt k eo).2; have := hf k e2; omega
    · have := (h.s.t.lt k e2).2; have := hf k e; omega
    · have := (h.s.l.lt k e2).2; have := hf k e; omega
    · have := ((h.s.o i v e).lt k eo).2; have := hf k e2; omega
/-- And held, too. -/
theorem Gr.push (h : Gr w0 tv lv ts vs bs i gv gl w) (hi : vs.length % 4 = i % 4) (hz : gl.length ≤ 8000000) {ad : Option Addr} {n cap : Nat} (h1 : Ov w' w0.heap.size (.slice ad n cap) (vs ++ [gv]))
    (hc : (∃ g, lv = .slice (some ⟨g, 0, none⟩) vs.length cap ∧ ad = some ⟨g, 0, none⟩ ∧ Wo (fun k => k = g) w w') ∨ (Below w.heap.size w w' ∧ ∀ k', (Value.slice ad n cap).ownBlock = some k' → w.heap.size ≤ k')) :
    Ls w0 tv (.slice ad n cap) ts (vs ++ [gv]) (fun j => if j = vs.length then gl else bs j) w' :=
  h.s.push h.g (fun j v k e hn eo => h.d j v k e (by rw [← hi]; exact hn) eo) h.x hz h1 hc
end
end Go.Dg
namespace Go.Proofs
open Go.RowKit Go.Wi Go.Dg
theorem Tryz.info8 : (Tryz.prog.info? 5).map (fun i => (i.zero, i.size, i.bytes)) = some (some (.int .u8 0), 1, 1) := by kernel_rfl
theorem Tryz.infoL : (Tryz.prog.info? 26).map (fun i => (i.zero, i.size, i.bytes)) = some (some (.slice none 0 0), 1, 24) := by kernel_rfl
section
variable {ops : Array Oper} {rest : List Oper} {o : Oper} {a : Act} {Q : Exit → Act → World → Prop} {w : World} {B : Nat} {V : Value} {l : List Value}
theorem Tryz.appL (hgd : o.guard = none) (s y : Operand) (ho : o.op = .call { callee := .builtin .append, args := #[s, y], argTypes := #[40, 40] })
    (h : Ov w B V l) (hB : B ≤ w.heap.size) (hs : a.eval s = V) (x : Value) (g0 : Nat) (hy : a.eval y = .slice (some ⟨g0, 0, none⟩) 1 1)
    (hnb : w.heap[g0]? = some (.cells #[x] 26 (0, 0))) (hone : x.oneCell' = true) (hlen : l.length + 1 ≤ 1000)
    (hK : ∀ ad cap w1, Ov w1 B (.slice ad (l.length + 1 : Nat) cap) (l ++ [x]) → ((∃ g, V = .slice (some ⟨g, 0, none⟩) l.length cap ∧ ad = some ⟨g, 0, none⟩ ∧ Wo (fun k => k = g) w w1) ∨ (Below w.heap.size w w1 ∧ ∀ k', (Value.slice ad (l.length + 1 : Nat) cap).ownBlock = some k' → w.heap.size ≤ k')) → wpList Tryz.prog ops Q rest (a.put o.dst (.slice ad (l.length + 1 : Nat) cap)) w1) : wpList Tryz.prog ops Q (o :: rest) a w := by
  obtain ⟨i0, hi0, hz0, hz1, hz2⟩ := info_parts Tryz.infoL
  exact Dg.appV hgd s y ho Tryz.underlying40 hi0 hz0 hz1 hz2 rfl h hB hs [x] 1 g0 hy rfl (by decide) hnb (fun u hu => by rw [List.mem_singleton.1 hu]; exact hone) (by simp only [List.length_cons, List.length_nil]; omega) (by simp only [List.length_cons, List.length_nil]; unfold maxLen; omega) hK
theorem Tryz.appG (hgd : o.guard = none) (s y : Operand) (ho : o.op = .call { callee := .builtin .append, args := #[s, y], argTypes := #[26, 26] })
    {gl : List UInt8} (h : Ob w B V gl) (hB : B ≤ w.heap.size) (hs : a.eval s = V) (m : UInt8) (v : Value) (hv : v = .int .u8 ((m.toNat : Nat) : Int)) (g0 : Nat) (hy : a.eval y = .slice (some ⟨g0, 0, none⟩) 1 1)
    (hnb : w.heap[g0]? = some (.cells #[v] 5 (0, 0))) (hlen : gl.length + 1 ≤ 100000000)
    (hK : ∀ ad cap w1, Ob w1 B (.slice ad (gl.length + 1 : Nat) cap) (gl ++ [m]) → ((∃ g, V = .slice (some ⟨g, 0, none⟩) gl.length cap ∧ ad = some ⟨g, 0, none⟩ ∧ Wo (fun k => k = g) w w1) ∨ (Below w.heap.size w w1 ∧ ∀ k', (Value.slice ad (gl.length + 1 : Nat) cap).ownBlock = some k' → w.heap.size ≤ k')) → wpList Tryz.prog ops Q rest (a.put o.dst (.slice ad (gl.length + 1 : Nat) cap)) w1) : wpList Tryz.prog ops Q (o :: rest) a w := by
  subst hv
  obtain ⟨i0, hi0, hz0, hz1, hz2⟩ := info_parts Tryz.info8
  have hbl := byteCells_len gl
  refine Dg.appV hgd s y ho Tryz.underlying26 hi0 hz0 hz1 hz2 rfl h.ov hB hs (Lib.byteCells [m]) 1 g0 hy rfl (by decide) hnb (fun u hu => by rw [List.mem_singleton.1 hu]; rfl) (by rw [hbl]; show (gl.length + 1) * 1 ≤ _; omega) (by rw [hbl]; show gl.length + 1 ≤ _; unfold maxLen; omega) fun ad cap w1 h1 h2 => ?_
  rw [hbl] at h1 h2 ⊢
  rw [← byteCells_app] at h1
  exact hK ad cap w1 h1.ob h2
end

end Go.Proofs
namespace Go.Proofs
open Go.RowKit Go.Wi Go.Dg
theorem Dg.Ov.cell {w : World} {B g n cap : Nat} {l : List Value} (h : Ov w B (.slice (some ⟨g, 0, none⟩) n cap) l) {j : Nat} {u : Value} (hj : l[j]? = some u) : w.cell? ⟨g, j, none⟩ = some u := by
  rcases h with ⟨e, _⟩ | ⟨g', cap', e, _, _, _, h4, _⟩
  · cases e
  · cases e
    exact h4 j u hj
def Dg.mk (j : Nat) : UInt8 := UInt8.ofNat (j % 4 + 1)
theorem Dg.mk_nat (j : Nat) : (Dg.mk j).toNat = j % 4 + 1 := by
  unfold Dg.mk
  rw [UInt8.toNat_ofNat']
  omega
end Go.Proofs
namespace Go.Proofs
open Go.RowKit Go.Wi Go.Wb
theorem Wb.Og.toOb {w : World} {B : Nat} {V : Value} {l : List UInt8} (h : Og w B V l) : Dg.Ob w B V l := .inr h
theorem Wb.rqAns_no {meth tg : List UInt8} {L : List (List UInt8 × List UInt8)} (dec : Int → List UInt8) (body : List UInt8) (last : Bool) (h : okReq meth tg L = false) : rqAns dec meth tg L body last = ([], 180) := by
  unfold rqAns; rw [if_neg (by rw [h]; decide)]
theorem Wb.prAns_no {st : Int} {L : List (List UInt8 × List UInt8)} {body : List UInt8} (dec : Int → List UInt8) (last : Bool) (h : mayPrint st L body = false) : prAns dec st L body last = ([], 180) := by
  unfold prAns; rw [if_neg (by rw [h]; decide)]
theorem Wb.prd_ans {w w' : World} {line body T : List UInt8} {H : List (List UInt8 × List UInt8)} {e : Ending} {n : Int} (h : Tryz.Prd w w' line H body e) (ha : (if H.length ≤ 32 ∧ headSize line H ≤ 2048 then (printedT line H body, (0 : Int)) else ([], 181)) = (T, n)) :
    (∃ ad N cap, e = .returned (.tuple #[.slice ad N cap, .int .i64 n]) ∧ Dg.Ob w' w.heap.size (.slice ad N cap) T) ∧ Below w.heap.size w w' := by
  refine ⟨?_, h.1⟩
  rcases h.2 with ⟨h1, R, rfl, h2⟩ | ⟨h1, rfl⟩
  · rw [if_pos (show H.length ≤ 32 ∧ headSize line H ≤ 2048 from h1)] at ha
    injection ha with ha1 ha2
    subst ha1 ha2
    obtain ⟨g, cap, rfl, _⟩ := id h2
    exact ⟨_, _, _, rfl, Wb.Og.toOb h2⟩
  · rw [if_neg (show ¬ (H.length ≤ 32 ∧ headSize line H ≤ 2048) from h1)] at ha
    injection ha with ha1 ha2
    subst ha1 ha2
    exact ⟨none, 0, 0, rfl, Dg.Ob.nil _ _⟩
theorem Tryz.pReq_any {w : World} {V Y : Value} {L : List (List UInt8 × List UInt8)} {body : List UInt8} (meth tg : List UInt8) (last : Bool) (hV : Hs w V L) (hY : Bs w Y body) (hYl : ∀ k, Y.ownBlock = some k → k < w.heap.size) (hm : meth.length ≤ 140737488351232) (htg : tg.length ≤ 140737488355328) (hl : ∀ x ∈ L, x.1.length ≤ 140737488355328 ∧ x.2.length ≤ 140737488355328) (hL : L.length ≤ 4398046511000) (hb : body.length ≤ 140737488351232)
    (hI : ∀ (n : Int) W, 0 ≤ n → n ≤ 9223372036854775807 → Below w.heap.size w W → Calls Tryz.prog 32 #[.int .i64 n] W fun e w' => e = .returned (.string ⟨(Lib.itoa n).toArray⟩) ∧ Below W.heap.size W w') :
    Calls Tryz.prog 6 #[.agg #[.string ⟨meth.toArray⟩, .string ⟨tg.toArray⟩, V, Y, .bool last]] w fun e w' => (∃ ad N cap, e = .returned (.tuple #[.slice ad N cap, .int .i64 (rqAns Lib.itoa meth tg L body last).2]) ∧ Dg.Ob w' w.heap.size (.slice ad N cap) (rqAns Lib.itoa meth tg L body last).1) ∧ Below w.heap.size w w' := by
  cases ho : okReq meth tg L with
  | false =>
    rw [Wb.rqAns_no _ _ _ ho]
    exact (Tryz.printRequest_no meth tg last hV hY (by omega) htg hl hL ho).mono fun e w' ⟨h1, h2⟩ => ⟨⟨none, 0, 0, h1, Dg.Ob.nil _ _⟩, h2⟩
  | true =>
    by_cases hbig : 6000 < body.length
    · have e : rqAns Lib.itoa meth tg L body last = ([], 182) := by unfold rqAns; rw [if_pos ho, if_pos hbig]
      rw [e]
      exact (Tryz.printRequest_big meth tg last hV hY (by omega) htg hl hL (by omega) ho hbig).mono fun e w' ⟨h1, h2⟩ => ⟨⟨none, 0, 0, h1, Dg.Ob.nil _ _⟩, h2⟩
    · refine (Tryz.printRequest_yes Lib.itoa meth tg last hV hY hm htg hl hL hYl hI (fun n h0 h1 => Nat.le_trans (Lib.itoa_length_le n (by omega) h1) (by decide)) ho (by omega)).mono fun e w' h => ?_
      refine Wb.prd_ans h ?_
      unfold rqAns
      rw [if_pos ho, if_neg hbig]
theorem Tryz.pRes_any {w : World} {V Y : Value} {L : List (List UInt8 × List UInt8)} {body : List UInt8} (st : Int) (last : Bool) (hV : Hs w V L) (hY : Bs w Y body) (hYl : ∀ k, Y.ownBlock = some k → k < w.heap.size) (hl : ∀ x ∈ L, x.1.length ≤ 140737488355328 ∧ x.2.length ≤ 140737488355328) (hL : L.length ≤ 4398046511000) (hb : body.length ≤ 140737488351232)
    (hI : ∀ (n : Int) W, 0 ≤ n → n ≤ 9223372036854775807 → Below w.heap.size w W → Calls Tryz.prog 32 #[.int .i64 n] W fun e w' => e = .returned (.string ⟨(Lib.itoa n).toArray⟩) ∧ Below W.heap.size W w') :
    Calls Tryz.prog 8 #[.agg #[.int .i64 st, V, Y, .bool last]] w fun e w' => (∃ ad N cap, e = .returned (.tuple #[.slice ad N cap, .int .i64 (prAns Lib.itoa st L body last).2]) ∧ Dg.Ob w' w.heap.size (.slice ad N cap) (prAns Lib.itoa st L body last).1) ∧ Below w.heap.size w w' := by
  cases ho : mayPrint st L body with
  | false =>
    rw [Wb.prAns_no _ _ ho]
    exact (Tryz.printResponse_no st last hV hY hl (by omega) hb ho).mono fun e w' ⟨h1, h2⟩ => ⟨⟨none, 0, 0, h1, Dg.Ob.nil _ _⟩, h2⟩
  | true =>
    refine (Tryz.printResponse_yes Lib.itoa st last hV hY hYl hl hL hb hI (fun n h0 h1 => Nat.le_trans (Lib.itoa_length_le n (by omega) h1) (by decide)) ho).mono fun e w' h => ?_
    refine Wb.prd_ans h ?_
    unfold prAns
    rw [if_pos ho]
theorem Tryz.rReq_any {w : World} {V Y : Value} {L : List (List UInt8 × List UInt8)} {body : List UInt8} (meth tg : List UInt8) (last : Bool) (hV : Hs w V L) (hY : Bs w Y body) (hYl : ∀ k, Y.ownBlock = some k → k < w.heap.size) (hm : meth.length ≤ 140737488355328) (htg : tg.length ≤ 140737488355328) (hl : ∀ x ∈ L, x.1.length ≤ 140737488355328 ∧ x.2.length ≤ 140737488355328) (hL : L.length ≤ 4398046511000) (hb : body.length ≤ 140737488355328) (hT : (headText (rqHeads Lib.itoa L body last)).length ≤ 140737488355328) :
    Calls Tryz.prog 7 #[.agg #[.string ⟨meth.toArray⟩, .string ⟨tg.toArray⟩, V, Y, .bool last]] w fun e w' => e = .returned (.tuple #[.string ⟨(rqAns Lib.itoa meth tg L body last).1.toArray⟩, .int .i64 (rqAns Lib.itoa meth tg L body last).2]) ∧ Below w.heap.size w w' := by
  cases ho : okReq meth tg L with
  | false =>
    rw [Wb.rqAns_no _ _ _ ho]
    exact Tryz.rPrintRequest_no meth tg last hV hY hm htg hl hL ho
  | true => exact Tryz.rPrintRequest_ok meth tg last hV hY hYl hm htg hl hL hb hT ho
theorem Tryz.rRes_any {w : World} {V Y : Value} {L : List (List UInt8 × List UInt8)} {body : List UInt8} (st : Int) (last : Bool) (hV : Hs w V L) (hY : Bs w Y body) (hYl : ∀ k, Y.ownBlock = some k → k < w.heap.size) (hl : ∀ x ∈ L, x.1.length ≤ 140737488355328 ∧ x.2.length ≤ 140737488355328) (hL : L.length ≤ 4398046511000) (hb : body.length ≤ 140737488355328) (hT : (headText (prHeads Lib.itoa st L body last)).length ≤ 140737488355328) :
    Calls Tryz.prog 9 #[.agg #[.int .i64 st, V, Y, .bool last]] w fun e w' => e = .returned (.tuple #[.string ⟨(prAns Lib.itoa st L body last).1.toArray⟩, .int .i64 (prAns Lib.itoa st L body last).2]) ∧ Below w.heap.size w w' := by
  cases ho : mayPrint st L body with
  | false =>
    rw [Wb.prAns_no _ _ ho]
    exact Tryz.rPrintResponse_no st last hV hY hl hL ho
  | true =>
    have hbare : (st == 204 || st == 304) = true → body = [] := fun e => by
      have h : ((decide (200 ≤ st) && decide (st ≤ 599)) && !((st == 204 || st == 304) && decide (0 < body.length)) && mayStand L) = true := ho
      rw [e] at h
      simp only [Bool.and_eq_true, Bool.true_and, Bool.not_eq_true', decide_eq_false_iff_not] at h
      exact List.eq_nil_of_length_eq_zero (by omega)
    by_cases h204 : st = 204
    · subst h204
      obtain rfl := hbare rfl
      exact Tryz.rPrintResponse_204 last hV hY hYl hl hL hT ho
    · by_cases h304 : st = 304
      · subst h304
        obtain rfl := hbare rfl
        exact Tryz.rPrintResponse_304 last hV hY hYl hl hL hT ho
      · exact Tryz.rPrintResponse_any st h204 h304 hb last hV hY hYl hl hL hT ho
end Go.Proofs
