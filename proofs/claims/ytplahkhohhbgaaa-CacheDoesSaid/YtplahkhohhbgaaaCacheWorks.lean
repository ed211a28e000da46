/-
  The law's package for cache: the document's example.
-/
import Derived.Test.YtplahkhohhbgaaaCacheGet
namespace Go.Proofs.Ytplahkhohhbgaaa
open Go.RowKit Go.Proofs.Cch
set_option linter.unusedVariables false
set_option linter.unusedSimpArgs false
set_option maxRecDepth 100000 in
set_option maxHeartbeats 2000000 in
theorem cworks_any (w : World) :
    Calls Try.prog 14 #[] w fun e w' => e = .returned (.bool true) ∧ Below w.heap.size w w' := by
  have hk : ∀ b : UInt8, (⟨#[b]⟩ : ByteArray).size ≤ maxLen := fun b => by simp [ByteArray.size, maxLen]
  have HK := Lib.hid hk
  clear hk
  go_enter Try.func14, Try.ntmps14
  go_wp2_with fail
  refine (cnew_any 1 w w (Bl.start w)).mono ?_
  rintro e w1 ⟨rfl, h, _⟩
  rw [show sizeOfC 1 = 1 from rfl] at h
  have H := Lib.hid h
  clear h
  go_wp2_with fail
  refine (offer_any (⟨#[97]⟩ : ByteArray) ⟨#[49]⟩ (HK.out _) H.out).mono ?_
  rintro e w2 ⟨rfl, v2, h, _, _⟩
  rw [show offerF 1 [] [] ⟨#[97]⟩ ⟨#[49]⟩ = ([(⟨#[97]⟩, ⟨#[49]⟩)], true) by kernel_rfl] at h ⊢
  have H2 := Lib.hid h
  clear h H
  dsimp only
  go_wp2_with fail
  refine (offer_any (⟨#[98]⟩ : ByteArray) ⟨#[50]⟩ (HK.out _) H2.out).mono ?_
  rintro e w3 ⟨rfl, v3, h, _, _⟩
  rw [show offerF 1 [(⟨#[97]⟩, ⟨#[49]⟩)] [] ⟨#[98]⟩ ⟨#[50]⟩ = ([(⟨#[97]⟩, ⟨#[49]⟩)], false) by kernel_rfl] at h ⊢
  have H3 := Lib.hid h
  clear h H2
  dsimp only
  go_wp2_with fail
  refine (get_any (⟨#[98]⟩ : ByteArray) (HK.out _) (by omega) (by simp) H3.out).mono ?_
  rintro e w4 ⟨rfl, h, _⟩
  rw [show getF 1 [(⟨#[97]⟩, ⟨#[49]⟩)] [] 0 ⟨#[98]⟩ = ([(⟨#[97]⟩, ⟨#[49]⟩)], [(⟨#[98]⟩, 1)], 1) by kernel_rfl] at h
  rw [show gotF 1 [(⟨#[97]⟩, ⟨#[49]⟩)] ⟨#[98]⟩ = (⟨#[]⟩, false) by kernel_rfl]
  have H4 := Lib.hid h
  clear h H3
  dsimp only
  go_wp2_with fail
  refine (offer_any (⟨#[98]⟩ : ByteArray) ⟨#[51]⟩ (HK.out _) H4.out).mono ?_
  rintro e w5 ⟨rfl, v5, h, _, _⟩
  rw [show offerF 1 [(⟨#[97]⟩, ⟨#[49]⟩)] [(⟨#[98]⟩, 1)] ⟨#[98]⟩ ⟨#[51]⟩ = ([(⟨#[98]⟩, ⟨#[51]⟩)], true) by kernel_rfl] at h ⊢
  have H5 := Lib.hid h
  clear h H4
  dsimp only
  go_wp2_with fail
  refine (get_any (⟨#[98]⟩ : ByteArray) (HK.out _) (by omega) (by simp) H5.out).mono ?_
  rintro e w6 ⟨rfl, h, _⟩
  rw [show getF 1 [(⟨#[98]⟩, ⟨#[51]⟩)] [(⟨#[98]⟩, 1)] 1 ⟨#[98]⟩ = ([(⟨#[98]⟩, ⟨#[51]⟩)], [(⟨#[98]⟩, 2)], 2) by kernel_rfl] at h
  rw [show gotF 1 [(⟨#[98]⟩, ⟨#[51]⟩)] ⟨#[98]⟩ = (⟨#[51]⟩, true) by kernel_rfl]
  have H6 := Lib.hid h
  clear h H5
  dsimp only
  go_wp2_with fail
  refine (get_any (⟨#[97]⟩ : ByteArray) (HK.out _) (by omega) (by simp) H6.out).mono ?_
  rintro e w7 ⟨rfl, h, _⟩
  rw [show getF 1 [(⟨#[98]⟩, ⟨#[51]⟩)] [(⟨#[98]⟩, 2)] 2 ⟨#[97]⟩ = ([(⟨#[98]⟩, ⟨#[51]⟩)], [(⟨#[98]⟩, 2), (⟨#[97]⟩, 1)], 3) by kernel_rfl] at h
  rw [show gotF 1 [(⟨#[98]⟩, ⟨#[51]⟩)] ⟨#[97]⟩ = (⟨#[]⟩, false) by kernel_rfl]
  have H7 := Lib.hid h
  clear h H6
  dsimp only
  go_wp2_with fail
  refine (often_any (⟨#[98]⟩ : ByteArray) (HK.out _) H7.out).mono ?_
  rintro e w8 ⟨rfl, rfl⟩
  rw [show cntAt [(⟨#[98]⟩, 2), (⟨#[97]⟩, 1)] ⟨#[98]⟩ = 2 by kernel_rfl]
  go_wp2_with fail
  refine (counted_any H7.out).mono ?_
  rintro e w8 ⟨rfl, rfl⟩
  go_wp2_with fail
  refine (keys_any H7.out).mono ?_
  rintro e w8 ⟨vk, rfl, hk, hb⟩
  obtain ⟨Ak, ck, hvk, _, _⟩ := Strs.of_own hk
  have hl1 : (keysF [(⟨#[98]⟩, ⟨#[51]⟩)]).length = 1 := rfl
  rw [hl1] at hvk
  have H8 := Lib.hid (H7.out.below hb)
  subst hvk
  clear hk hb hl1 H7
  go_wp2_with fail
  refine (forget_any (⟨#[98]⟩ : ByteArray) H8.out).mono ?_
  rintro e w9 ⟨rfl, v9, h, _, _⟩
  rw [show forgetF [(⟨#[98]⟩, ⟨#[51]⟩)] ⟨#[98]⟩ = ([], true) by kernel_rfl] at h ⊢
  have H9 := Lib.hid h
  clear h H8
  dsimp only
  go_wp2_with fail
  refine (forget_any (⟨#[98]⟩ : ByteArray) H9.out).mono ?_
  rintro e w10 ⟨rfl, v10, h, _, _⟩
  rw [show forgetF [] ⟨#[98]⟩ = ([], false) by kernel_rfl] at h ⊢
  have H10 := Lib.hid h
  clear h H9
  dsimp only
  go_wp2_with fail
  go_ret
  exact ⟨rfl, H10.out.bl.1⟩
end Go.Proofs.Ytplahkhohhbgaaa
