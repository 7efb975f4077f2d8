/-
  FEED: plain facts of FeedKnown.
-/
import Derived.Test.YtfbjhjmhcbiomaaDoorFgH
namespace Go.Fd
def knR : Cn := ⟨⟨#[33, 114]⟩, 2, 1⟩
def knS : Cn := ⟨⟨#[33, 115]⟩, 0, 0⟩
def knP : Cn := ⟨⟨#[33, 114]⟩, 1, 0⟩
def knQ : Cn := ⟨⟨#[33, 113]⟩, 1, 1⟩
def knT : Cn := ⟨⟨#[33, 115]⟩, 3, 3⟩
def knU : Cn := ⟨⟨#[33, 115]⟩, 2, 2⟩
theorem k_sheet2 : sheet [knR, knS] = [knR, knS] := by decide +kernel
theorem k_ch0 : changed [knR, knS] [] = [knR, knS] := by decide +kernel
theorem k_ch1 : changed [knR, knS] [knP] = [knR, knS] := by decide +kernel
theorem k_ch2 : changed [knR, knS] [knR, knS] = [] := by decide +kernel
theorem k_ch3 : changed [knS] [knR, knS] = [] := by decide +kernel
theorem k_go0 : goneL [knR, knS] [] = [] := by decide +kernel
theorem k_go1 : goneL [knR, knS] [knP] = [] := by decide +kernel
theorem k_go2 : goneL [knR, knS] [knR, knS] = [] := by decide +kernel
theorem k_go3 : goneL [knS] [knR, knS] = [⟨#[33, 114]⟩] := by decide +kernel
theorem k_fold1 : foldP [knP, knU] [knT, knQ] [⟨#[33, 114]⟩] = [knQ, knT] := by decide +kernel
theorem k_fold2 : foldP [knP, knR] [] [] = [knR] := by decide +kernel
end Go.Fd
