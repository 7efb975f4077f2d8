/-
  JsonKnown: the walk.
-/
import Derived.Test.YtoibnhknkhefjaaGreatDoorJz
import Derived.Test.YtoibnhknkhefjaaGreatDoorJpa
import Derived.Test.YtoibnhknkhefjaaGreatDoorJpb
import Derived.Test.YtoibnhknkhefjaaGreatDoorJrr
import Derived.Test.YtoibnhknkhefjaaGreatDoorJsm
import Derived.Test.YtoibnhknkhefjaaGreatDoorOf
namespace Go.Jv
/-- The texts that are no values, the places, and the faults. -/
def knD : List (ByteArray × Nat × Nat) := [(⟨#[]⟩, 0, 20), (⟨#[91, 49, 44, 93]⟩, 3, 20), (⟨#[91, 49, 46, 53, 93]⟩, 1, 23), (⟨#[91, 48, 49, 93]⟩, 1, 20), (⟨#[110, 117, 108, 108, 120]⟩, 0, 20), (⟨#[123, 34, 97, 34, 58, 49, 44, 34, 92, 117, 48, 48, 54, 49, 34, 58, 120, 125]⟩, 7, 24), (⟨#[34, 92, 117, 100, 56, 51, 100, 120, 34]⟩, 1, 20), (⟨#[91, 91, 91, 91, 91, 91, 91, 91, 91, 91, 91]⟩, 10, 21), (⟨#[34, 97, 92]⟩, 3, 20), (⟨#[49, 32, 50]⟩, 2, 20), (⟨#[45]⟩, 0, 20), (⟨#[49, 101]⟩, 0, 20), (⟨#[34, 92, 117, 100, 56, 51, 100, 92, 117, 48, 48]⟩, 11, 20), (⟨#[34, 92, 117, 100, 101, 48, 48, 34]⟩, 1, 20)]
theorem kn_at (i : Nat) (hi : i < 14) : ∃ s p e, knD[i]? = some (s, p, e) ∧ parse s = .bad p e ∧ e ≠ 0 ∧ s.size ≤ 20 := by
  match i, hi with
  | 0, _ => exact ⟨_, _, _, rfl, by kernel_rfl, by decide, by decide⟩
  | 1, _ => exact ⟨_, _, _, rfl, by kernel_rfl, by decide, by decide⟩
  | 2, _ => exact ⟨_, _, _, rfl, by kernel_rfl, by decide, by decide⟩
  | 3, _ => exact ⟨_, _, _, rfl, by kernel_rfl, by decide, by decide⟩
  | 4, _ => exact ⟨_, _, _, rfl, by kernel_rfl, by decide, by decide⟩
  | 5, _ => exact ⟨_, _, _, rfl, by kernel_rfl, by decide, by decide⟩
  | 6, _ => exact ⟨_, _, _, rfl, by kernel_rfl, by decide, by decide⟩
  | 7, _ => exact ⟨_, _, _, rfl, by kernel_rfl, by decide, by decide⟩
  | 8, _ => exact ⟨_, _, _, rfl, by kernel_rfl, by decide, by decide⟩
  | 9, _ => exact ⟨_, _, _, rfl, by kernel_rfl, by decide, by decide⟩
  | 10, _ => exact ⟨_, _, _, rfl, by kernel_rfl, by decide, by decide⟩
  | 11, _ => exact ⟨_, _, _, rfl, by kernel_rfl, by decide, by decide⟩
  | 12, _ => exact ⟨_, _, _, rfl, by kernel_rfl, by decide, by decide⟩
  | 13, _ => exact ⟨_, _, _, rfl, by kernel_rfl, by decide, by decide⟩
def knC : List Value := knD.flatMap fun r => [.string r.1, .int .i64 r.2.1, .int .i64 r.2.2]
theorem knC_at : ∀ (l : List (ByteArray × Nat × Nat)) (i : Nat) (s : ByteArray) (p e : Nat), l[i]? = some (s, p, e) → let c := l.flatMap (fun r => [Value.string r.1, .int .i64 r.2.1, .int .i64 r.2.2]); c[i * 3]? = some (.string s) ∧ c[i * 3 + 1]? = some (.int .i64 p) ∧ c[i * 3 + 2]? = some (.int .i64 e)
  | [], _, _, _, _, h => by simp at h
  | x :: r, 0, s, p, e, h => by
    simp at h
    subst h
    exact ⟨rfl, rfl, rfl⟩
  | x :: r, i + 1, s, p, e, h => by
    have ih := knC_at r i s p e (by simpa using h)
    simp only [List.flatMap_cons, List.cons_append, List.nil_append] at ih ⊢
    rw [show (i + 1) * 3 = i * 3 + 1 + 1 + 1 by omega]
    simp only [List.getElem?_cons_succ]
    exact ih
end Go.Jv
namespace Go.Jv
def knP : ByteArray := ⟨#[99, 111, 110, 116, 101, 110, 116, 46, 109, 92, 46, 120]⟩
def knQ : ByteArray := ⟨#[97, 92, 98]⟩
theorem knP_ok : path knP = .ok [⟨#[99, 111, 110, 116, 101, 110, 116]⟩, ⟨#[109, 46, 120]⟩] := by kernel_rfl
theorem knQ_bad : path knQ = .bad 1 25 := by kernel_rfl
theorem knT : rightB ⟨#[97, 255, 98]⟩ = ⟨#[97, 239, 191, 189, 98]⟩ := by kernel_rfl
theorem knM : pr (.obj [Go.Proofs.Jv.kA, Go.Proofs.Jv.kB] [.null, .int 2]) = [123, 34, 97, 34, 58, 110, 117, 108, 108, 44, 34, 98, 34, 58, 50, 125] := by kernel_rfl
end Go.Jv
namespace Go.Proofs
open Go.RowKit Go.Jv
theorem Tryz.knP_any (w : World) (hT : Tryz.Tb w) : Calls Tryz.prog 20 #[.string knP] w fun en w' => ∃ g c, en = .returned (.tuple #[.slice (some ⟨g, 0, none⟩) 2 c, .nilIface]) ∧ w'.cell? ⟨g, 0, none⟩ = some (.string ⟨#[99, 111, 110, 116, 101, 110, 116]⟩) ∧ w'.cell? ⟨g, 1, none⟩ = some (.string ⟨#[109, 46, 120]⟩) ∧ Below w.heap.size w w' := by
  refine (Tryz.path_any knP (by decide) w hT).mono ?_
  rintro en w' (⟨l, v, h1, rfl, h3, h4⟩ | ⟨p, e, y, h1, _⟩)
  · rw [knP_ok] at h1
    cases h1
    rcases h3.2 with ⟨_, e2⟩ | ⟨g, cap, cur, rfl, _, hb, _, _, _, h5⟩
    · simp at e2
    · refine ⟨g, cap, rfl, ?_, ?_, h4⟩
      · have h6 := congrArg (fun l => l[0]?) h5
        rw [cell_of_row _ _ _ _ _ _ hb]
        simpa [Jv.txts] using h6
      · have h6 := congrArg (fun l => l[1]?) h5
        rw [cell_of_row _ _ _ _ _ _ hb]
        simpa [Jv.txts] using h6
  · rw [knP_ok] at h1
    cases h1
theorem Tryz.knQ_any (w : World) (hT : Tryz.Tb w) : Calls Tryz.prog 20 #[.string knQ] w fun en w' => ∃ y, en = .returned (.tuple #[.slice none 0 0, .iface 71 (.pointer (some ⟨y, 0, none⟩))]) ∧ w'.cell? ⟨y, 0, none⟩ = some (.int .i64 1) ∧ w'.cell? ⟨y, 1, none⟩ = some (.int .i64 25) ∧ Below w.heap.size w w' := by
  refine (Tryz.path_any knQ (by decide) w hT).mono ?_
  rintro en w' (⟨l, v, h1, _⟩ | ⟨p, e, y, h1, rfl, h2, h3, _, h4⟩)
  · rw [knQ_bad] at h1
    cases h1
  · rw [knQ_bad] at h1
    cases h1
    exact ⟨y, rfl, h2, h3, h4⟩
set_option maxRecDepth 100000 in
set_option maxHeartbeats 4000000 in
theorem Tryz.jsonKnownWalk (c : Int) (hc : -9223372036854775808 ≤ c ∧ c ≤ 9223372036854775807) (w : World) (hT : Tryz.Tb w) :
    Calls Tryz.prog 5 #[.int .i64 c] w fun e w' => e = .returned (.bool true) ∧ Below w.heap.size w w' := by
  have hpk := fun W => Tryz.pick_any c hc.1 hc.2 14 (by omega) (by omega) W
  have hi := pk_lt c 14 (by omega)
  generalize pk c 14 = i at hpk hi
  obtain ⟨s, p, e, hkn, hbad, he, hsz⟩ := kn_at i hi
  obtain ⟨k0, k1, k2⟩ := knC_at knD i s p e hkn
  have hpb := fun c W hW => Tryz.parse_bad s p e hbad c W (by omega) hW
  have hsb := Tryz.conv_sb s
  have he' : ¬ (e : Int) = 0 := by omega
  have HK : Hid (knC[i * 3]? = some (.string s) ∧ knC[i * 3 + 1]? = some (.int .i64 p) ∧ knC[i * 3 + 2]? = some (.int .i64 e)) := ⟨k0, k1, k2⟩
  have HT : Hid (Tryz.Tb w) := hT
  have hii : (i : Int) < 14 := by omega
  have hmm := @run_makeMap Tryz.prog
  have hof := fun W => Tryz.ofInt_any 2 W
  clear k0 k1 k2 hkn hbad hT
  go_enter Tryz.func5, Tryz.ntmps5
  go_wp2_with (first
    | (go_at_call 18; refine (hpk _).mono ?_; clear hpk; rintro e1 w1 ⟨rfl, hw1⟩; have hb1 : w1.heap[w.heap.size]? = some (.cells knC.toArray 44 (0, 0)) := by rw [hw1]; exact heap_alloc_new w _
       have hbe1 : Below w.heap.size w w1 := by rw [hw1]; exact (Below.refl _ _).alloc (Nat.le_refl _) _
       have k0 : w1.cell? ⟨w.heap.size, i * 3, none⟩ = some (.string s) := (cell_of_row _ _ _ _ _ _ hb1).trans (by rw [List.getElem?_toArray]; exact HK.out.1)
       have k1 : w1.cell? ⟨w.heap.size, i * 3 + 1, none⟩ = some (.int .i64 p) := (cell_of_row _ _ _ _ _ _ hb1).trans (by rw [List.getElem?_toArray]; exact HK.out.2.1)
       have k2 : w1.cell? ⟨w.heap.size, i * 3 + 2, none⟩ = some (.int .i64 e) := (cell_of_row _ _ _ _ _ _ hb1).trans (by rw [List.getElem?_toArray]; exact HK.out.2.2)
       have hbe2 : Below w.heap.size w (w1.alloc (.cells #[.string s, .int .i64 p, .int .i64 e] 44)) := hbe1.alloc hbe1.size _
       have hpb2 := fun c => hpb c _ (HT.out.below hbe2 HT.out.size)
       have hr2 := heap_alloc_new w1 (.cells #[.string s, .int .i64 p, .int .i64 e] 44)
       simp only [World.size_alloc] at hpb2
       have HB2 : Hid _ := hbe2
       have HR2 : Hid _ := hr2
       clear hw1 hb1 hbe1 hbe2 hpb hr2)
    | (go_at_call 16; refine (hpb2 _).mono ?_; clear hpb2; rintro e3 w3 ⟨y3, rfl, y30, y31, hb3⟩; have hr3 : w3.heap[w1.heap.size]? = some (.cells #[.string s, .int .i64 p, .int .i64 e] 44 (0, 0)) := (hb3.block _ (by simp)).trans HR2.out
       have hbe3 : Below w.heap.size w w3 := HB2.out.trans (hb3.mono (by have := HB2.out.size; simpa using this))
       have hf3 := Tryz.lawFault_some w3 y3 p e y30 y31 he
       have HB3 : Hid _ := hbe3
       have HR3 : Hid _ := hr3
       clear hb3 hbe3 hr3 y30 y31 HR2 HB2 k0 k1 k2)
    | (go_at_call 19; refine hf3.mono ?_; clear hf3; rintro e4 w4 ⟨rfl, n4, hw4⟩; have hr4 : w4.heap[w1.heap.size]? = some (.cells #[.string s, .int .i64 p, .int .i64 e] 44 (0, 0)) := by rw [hw4]; exact HR3.out
       have hbe4 : Below w.heap.size w w4 := by rw [hw4]; exact below_drewN HB3.out n4
       have r41 : w4.cell? ⟨w1.heap.size, 1, none⟩ = some (.int .i64 p) := cell_of_row _ _ 1 _ _ _ hr4
       have r42 : w4.cell? ⟨w1.heap.size, 2, none⟩ = some (.int .i64 e) := cell_of_row _ _ 2 _ _ _ hr4
       have hP := Tryz.knP_any w4 (HT.out.below hbe4 HT.out.size)
       have HB4 : Hid _ := hbe4
       clear hw4 hbe4 HR3 HB3 hr4)
    | (go_at_call 20; refine hP.mono ?_; clear hP; rintro e5 w5 ⟨g5, c5, rfl, p50, p51, hb5⟩; have hbe5 : Below w.heap.size w w5 := Jv.bthen0 HB4.out hb5
       have hQ := Tryz.knQ_any w5 (HT.out.below hbe5 HT.out.size)
       have hg5 : g5 < w5.heap.size := World.block_lt_of_cell? _ _ p50
       have HB5 : Hid _ := hbe5
       clear hb5 hbe5 HB4 r41 r42)
    | (go_at_call 20; refine hQ.mono ?_; clear hQ; rintro e6 w6 ⟨y6, rfl, y60, y61, hb6⟩; have hbe6 : Below w.heap.size w w6 := Jv.bthen0 HB5.out hb6
       have p60 : w6.cell? ⟨g5, 0, none⟩ = some (.string ⟨#[99, 111, 110, 116, 101, 110, 116]⟩) := (hb6.cell (p := ⟨g5, 0, none⟩) hg5).trans p50
       have p61 : w6.cell? ⟨g5, 1, none⟩ = some (.string ⟨#[109, 46, 120]⟩) := (hb6.cell (p := ⟨g5, 1, none⟩) hg5).trans p51
       have hg6 : g5 < w6.heap.size := Nat.lt_of_lt_of_le hg5 hb6.size
       have hf6 := Tryz.lawFault_some w6 y6 1 25 y60 y61 (by decide)
       have HB6 : Hid _ := hbe6
       clear hb6 hbe6 HB5 p50 p51 hg5 y60 y61)
    | (go_at_call 19; refine hf6.mono ?_; clear hf6; rintro e7 w7 ⟨rfl, n7, hw7⟩; have hbe7 : Below w.heap.size w w7 := by rw [hw7]; exact below_drewN HB6.out n7
       have p70 : w7.cell? ⟨g5, 0, none⟩ = some (.string ⟨#[99, 111, 110, 116, 101, 110, 116]⟩) := by rw [hw7]; exact p60
       have p71 : w7.cell? ⟨g5, 1, none⟩ = some (.string ⟨#[109, 46, 120]⟩) := by rw [hw7]; exact p61
       have hg7 : g5 < w7.heap.size := by rw [hw7]; exact hg6
       have hom0 := World.ownsMap_made w7 Tryz.prog 9 Jv.ptrR
       have HB7 : Hid (Below w.heap.size w w7) := hbe7
       clear hw7 hbe7 HB6 p60 p61 hg6)
    | (go_at_call 22; refine (hof _).mono ?_; clear hof; rintro e8 w8 ⟨rfl, hw8⟩
       have hm8 : w8.ownsMap Tryz.prog 9 Jv.ptrR w7.heap.size 0 (.map []) := by rw [hw8]; exact hom0.alloc _
       have hi8 : w8.heap[w7.heap.size + 1]? = some (.cells #[.int .i64 2, .bool false, .int .i64 2, .string emp, Jv.nilS, Jv.nilS] 67 (0, 0)) := by
         rw [hw8]
         have := heap_alloc_new (w7.alloc (.map #[] 0)) (.cells #[.int .i64 2, .bool false, .int .i64 2, .string emp, Jv.nilS, Jv.nilS] 67)
         rwa [World.size_alloc] at this
       have hbe8 : Below w.heap.size w w8 := by rw [hw8]; exact (HB7.out.alloc HB7.out.size _).alloc (by have := HB7.out.size; simp; omega) _
       have p80 : w8.cell? ⟨g5, 0, none⟩ = some (.string ⟨#[99, 111, 110, 116, 101, 110, 116]⟩) := by rw [hw8]; exact ((((Below.refl w7.heap.size w7).alloc (Nat.le_refl _) _).alloc (by simp) _).cell (p := ⟨g5, 0, none⟩) hg7).trans p70
       have p81 : w8.cell? ⟨g5, 1, none⟩ = some (.string ⟨#[109, 46, 120]⟩) := by rw [hw8]; exact ((((Below.refl w7.heap.size w7).alloc (Nat.le_refl _) _).alloc (by simp) _).cell (p := ⟨g5, 1, none⟩) hg7).trans p71
       have hs8 : w8.heap.size = w7.heap.size + 2 := by rw [hw8]; simp
       have hz7 := HB7.out.size
       generalize hx7 : w7.heap.size = x7 at *
       clear hw8 hom0 p70 p71
       obtain ⟨w9, hrun9, hm9, hg9⟩ := hm8.update Tryz.strK Tryz.underlying53 (by unfold maxLen; omega) (WideMaps.keyOf_string_mk Tryz.underlying9 (s := Jv.kB) (by decide)) (Jv.ptrR_mk (some (x7 + 1)))
       obtain ⟨wa, hruna, hma, hga⟩ := hm9.update Tryz.strK Tryz.underlying53 (by unfold maxLen; omega) (WideMaps.keyOf_string_mk Tryz.underlying9 (s := Jv.kA) (by decide)) (Jv.ptrR_mk none)
       have hr9 : (Instr.mapUpdate 53 (.map (some x7)) (.string ⟨#[98]⟩) (.pointer (some ⟨x7 + 1, 0, none⟩))).run Tryz.prog w8 = .ok () w9 := hrun9
       have hra : (Instr.mapUpdate 53 (.map (some x7)) (.string ⟨#[97]⟩) (.pointer none)).run Tryz.prog w9 = .ok () wa := hruna
       have hgg : w8.grownBy wa (some x7) := hg9.trans hga
       have hia : wa.heap[x7 + 1]? = some (.cells #[.int .i64 2, .bool false, .int .i64 2, .string emp, Jv.nilS, Jv.nilS] 67 (0, 0)) := (hgg.block _ (by omega) (by simp)).trans hi8
       have hbea : Below w.heap.size w wa := hbe8.grown hgg (by omega) (fun k hk => by injection hk with hk; omega)
       have pa0 : wa.cell? ⟨g5, 0, none⟩ = some (.string ⟨#[99, 111, 110, 116, 101, 110, 116]⟩) := (World.cell?_of_block (hgg.block g5 (by omega) (fun e => by injection e with e; omega))).trans p80
       have pa1 : wa.cell? ⟨g5, 1, none⟩ = some (.string ⟨#[109, 46, 120]⟩) := (World.cell?_of_block (hgg.block g5 (by omega) (fun e => by injection e with e; omega))).trans p81
       have hga5 : g5 < wa.heap.size := World.block_lt_of_cell? _ _ pa0
       have htr : Tryz.Tr wa (fun g => g < wa.heap.size) (.int 2) (x7 + 1) := by unfold Tryz.Tr; exact ⟨⟨(Array.getElem?_eq_some_iff.1 hia).1, by decide, by decide⟩, Jv.vb_of hia⟩
       have htwo := Tryz.ofMap_two (n := 0 + 1 + 1) hma htr
       have HBA : Hid (Below w.heap.size w wa) := hbea
       clear hrun9 hruna hm8 hi8 hbe8 p80 p81 hm9 hg9 hma hga hgg hia hbea htr HB7)
    | (go_at_call 21; refine htwo.mono ?_; clear htwo; rintro eb wb ⟨yb, rfl, htrb, hbb⟩; have hbeb : Below w.heap.size w wb := Jv.bthen0 HBA.out hbb
       have pb0 : wb.cell? ⟨g5, 0, none⟩ = some (.string ⟨#[99, 111, 110, 116, 101, 110, 116]⟩) := (hbb.cell (p := ⟨g5, 0, none⟩) hga5).trans pa0
       have pb1 : wb.cell? ⟨g5, 1, none⟩ = some (.string ⟨#[109, 46, 120]⟩) := (hbb.cell (p := ⟨g5, 1, none⟩) hga5).trans pa1
       have hgb5 : g5 < wb.heap.size := Nat.lt_of_lt_of_le hga5 hbb.size
       have hot := Tryz.ofText_any ⟨#[97, 255, 98]⟩ (by decide) wb
       rw [knT] at hot
       have HBB : Hid (Below w.heap.size w wb) := hbeb
       have HTRB : Hid _ := htrb
       clear hbeb hbb pa0 pa1 hga5 HBA htrb)
    | (go_at_call 11; refine hot.mono ?_; clear hot; rintro ec wc ⟨yc, rfl, -, hhc, hbc⟩; have hbec : Below w.heap.size w wc := Jv.bthen0 HBB.out hbc
       have pc0 : wc.cell? ⟨g5, 0, none⟩ = some (.string ⟨#[99, 111, 110, 116, 101, 110, 116]⟩) := (hbc.cell (p := ⟨g5, 0, none⟩) hgb5).trans pb0
       have pc1 : wc.cell? ⟨g5, 1, none⟩ = some (.string ⟨#[109, 46, 120]⟩) := (hbc.cell (p := ⟨g5, 1, none⟩) hgb5).trans pb1
       have hgc5 : g5 < wc.heap.size := Nat.lt_of_lt_of_le hgb5 hbc.size
       have htrc : Tryz.Tr wc (fun g => g < wc.heap.size) (.obj [Jv.kA, Jv.kB] [.null, .int 2]) yb := Tryz.Tr_mono (fun g hg _ => Nat.lt_of_lt_of_le hg hbc.size) _ _ (Tryz.Tr_keep (fun g _ hl => hbc.block g hl) hbc.size _ _ HTRB.out)
       have hpri := Tryz.print_any _ wc yb htrc (HT.out.below hbec HT.out.size) (by rw [knM]; decide)
       rw [knM] at hpri
       have HHC : Hid (wc.heap[yc]? = some (.cells #[.int .i64 3, .bool false, .int .i64 0, .string ⟨#[97, 239, 191, 189, 98]⟩, Jv.nilS, Jv.nilS] 67 (0, 0))) := hhc
       have HBC : Hid (Below w.heap.size w wc) := hbec
       clear hbec hbc hhc pb0 pb1 hgb5 HBB HTRB htrc)
    | (go_at_call 15; refine hpri.mono ?_; clear hpri; rintro ed wd ⟨rfl, hbd⟩; have htx := Tryz.text_of (Jv.vb_of ((hbd.block yc (Array.getElem?_eq_some_iff.1 HHC.out).1).trans HHC.out)))
    | (go_at_call 12; refine htx.mono ?_; clear htx; rintro ef wf ⟨rfl, rfl⟩)
    | fail)
  go_ret
  exact ⟨rfl, Jv.bthen0 HBC.out hbd⟩
end Go.Proofs
