/-
  JsonBack, walked.
-/
import Derived.Test.YtelhjocmiamfiaaGreatDoorJal
import Derived.Test.YtelhjocmiamfiaaGreatDoorJgc
import Derived.Test.YtelhjocmiamfiaaGreatDoorJpb
import Derived.Test.YtelhjocmiamfiaaGreatDoorJBy
namespace Go.Proofs
open Go.RowKit Go.Jv
theorem Jv.bthen1 {w w1 w2 : World} (h1 : Below w.heap.size w w1) (h2 : Below w1.heap.size w1 w2) : Below w.heap.size w w2 := h1.trans (h2.mono h1.size)
set_option maxRecDepth 100000 in
set_option maxHeartbeats 4000000 in
theorem Tryz.jsonBackWalk (bv : Value) (t : ByteArray) (w : World) (hB : Jv.By w bv t) (hs : t.size ≤ 140737488351232) (hT : Tryz.Tb w) :
    Calls Tryz.prog 3 #[bv] w fun e w' => e = .returned (.bool true) ∧ Below w.heap.size w w' := by
  obtain ⟨ad, cap, rfl, -⟩ := hB.ex
  have ha := Tryz.awake_any w hT
  have hpa := fun W (hW : Below w.heap.size w W) (hTW : Tryz.Tb W) => Tryz.parse_any t ad cap W (by omega) hTW (fun W' hW' => Tryz.conv_by ((hB.up hW).up hW'))
  have HT : Hid (Tryz.Tb w) := hT
  clear hB hT
  cases hp : parse t with
  | bad p e =>
    go_enter Tryz.func3, Tryz.ntmps3
    go_wp2_with (first
      | (go_at_call 4; refine ha.mono ?_; clear ha; rintro e1 w1 ⟨rfl, hb1⟩; have h1 := hpa w1 hb1 (HT.out.below hb1 HT.out.size))
      | (go_at_call 5; refine h1.mono ?_; clear h1 hpa; rintro e2 w2 h2
         obtain ⟨y, rfl, hb2⟩ : ∃ y, e2 = .returned (.tuple #[.pointer none, .iface 32 (.pointer (some ⟨y, 0, none⟩))]) ∧ Below w1.heap.size w1 w2 := by
           rcases h2 with ⟨v, x, h3, -⟩ | ⟨p', e', y, -, h4, -, -, h5⟩
           · rw [hp] at h3; cases h3
           · exact ⟨y, h4, h5⟩
         clear h2)
      | fail)
    go_ret
    exact ⟨rfl, Jv.bthen1 hb1 hb2⟩
  | ok v =>
    obtain ⟨hgd, hlen, h4096⟩ := parse_gd hp
    have hpr := fun (W : World) (x : Nat) hx hW => Tryz.print_any v W x hx hW (by omega)
    have hps : (⟨(pr v).toArray⟩ : ByteArray).size = (pr v).length := by simp [ByteArray.size]
    have hpp := parse_pr hgd (by omega)
    generalize hP : (⟨(pr v).toArray⟩ : ByteArray) = P at *
    have hok := fun c W hW => Tryz.parse_ok P v hpp c W (by omega) hW
    have hsb := Tryz.conv_sb P
    have q0 : ¬ (t.size : Int) < (P.size : Int) := by omega
    have HGD : Hid (Gd 10 v) := hgd
    clear hgd hpp hps hlen hP
    go_enter Tryz.func3, Tryz.ntmps3
    go_wp2_with (first
      | (go_at_call 4; refine ha.mono ?_; clear ha; rintro e1 w1 ⟨rfl, hb1⟩; have hT1 := HT.out.below hb1 HT.out.size; have h1 := hpa w1 hb1 hT1)
      | fail)
    refine h1.mono ?_
    clear h1 hpa
    rintro e2 w2 h2
    obtain ⟨x, rfl, htx, hb2⟩ : ∃ x, e2 = .returned (.tuple #[.pointer (some ⟨x, 0, none⟩), .nilIface]) ∧ Tryz.Tr w2 (fun g => w1.heap.size ≤ g) v x ∧ Below w1.heap.size w1 w2 := by
      rcases h2 with ⟨v', x, h3, h4, h5, h6⟩ | ⟨p', e', y, h3, -⟩
      · rw [hp] at h3
        injection h3 with h3
        rw [← h3] at h5
        exact ⟨x, h4, h5, h6⟩
      · rw [hp] at h3; cases h3
    clear h2
    have hT2 := hT1.below hb2 hT1.size
    have h3 := hpr w2 x (Tryz.Tr_mono (fun _ _ h => h) _ _ htx) hT2
    go_wp2_with (first
      | (go_at_call 6; refine h3.mono ?_; clear h3; rintro e3 w3 ⟨rfl, hb3⟩; have hT3 := hT2.below hb3 hT2.size)
      | fail)
    refine (hok _ _ hT3).mono ?_
    clear hok
    rintro e4 w4 ⟨y, rfl, hty, hb4⟩
    have hT4 := hT3.below hb4 hT3.size
    have hx3 : Tryz.Tr w3 (fun g => g < w3.heap.size) v x := Tryz.Tr_mono (fun _ _ h => h) _ _ (Tryz.Tr_keep (fun g _ hl => hb3.block g hl) hb3.size _ _ htx)
    have hx4 : Tryz.Tr w4 (fun g => g < w3.heap.size) v x := Tryz.Tr_keep (fun g _ hl => hb4.block g hl) hb4.size _ _ hx3
    have h5 := Tryz.same_any HGD.out hx4 hty (fun g h1 h2 => by omega)
    clear htx hx3
    go_wp2_with (first
      | (go_at_call 7; refine h5.mono ?_; clear h5; rintro e5 w5 ⟨rfl, hb5⟩
         have h6 := hpr w5 y (Tryz.Tr_mono (fun _ _ h => h) _ _ (Tryz.Tr_keep (fun g _ hl => hb5.block g hl) hb5.size _ _ hty)) (hT4.below hb5 hT4.size))
      | (go_at_call 6; refine h6.mono ?_; clear h6; rintro e6 w6 ⟨rfl, hb6⟩)
      | fail)
    go_ret
    exact ⟨rfl, Jv.bthen1 (Jv.bthen1 (Jv.bthen1 (Jv.bthen1 (Jv.bthen1 hb1 hb2) hb3) hb4) hb5) hb6⟩
end Go.Proofs
