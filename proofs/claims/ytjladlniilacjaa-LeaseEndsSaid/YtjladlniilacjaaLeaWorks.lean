/-
  The law's package for lease: the document's example.
-/
import Derived.Test.YtjladlniilacjaaLeaLaw
namespace Go.Proofs.Lea
set_option linter.unusedVariables false
def wT0 : Tbl := news 2 3
def wT1 : Tbl := (wT0.opens 7 0).1
def wT2 : Tbl := (wT1.store 1 4 ⟨#[120]⟩).1
def wT3 : Tbl := (wT2.renew 1 2).1
def wT4 : Tbl := (wT3.repin 1 8 4).1
def wT5 : Tbl := (wT4.expire 5).1
def wT6 : Tbl := (wT5.opens 1 5).1
def wT7 : Tbl := (wT6.release 2 6).1
theorem wR0 : (wT0.opens 7 0).2 = (1, 0) := by decide +kernel
theorem wR1 : wT1.finds 1 2 = (⟨1, 7, 3, 0⟩, 0) := by decide +kernel
theorem wR2 : wT1.finds 1 3 = (⟨0, 0, 0, 0⟩, 6) := by decide +kernel
theorem wR3 : wT1.finds 9 0 = (⟨0, 0, 0, 0⟩, 5) := by decide +kernel
theorem wR4 : (wT1.store 1 4 ⟨#[120]⟩).2 = 0 := by decide +kernel
theorem wR5 : wT2.replay 1 4 = (⟨#[120]⟩, 0) := by decide +kernel
theorem wR6 : wT2.replay 1 5 = (⟨#[]⟩, 9) := by decide +kernel
theorem wR7 : (wT2.renew 1 2).2 = 0 := by decide +kernel
theorem wR8 : (wT3.repin 1 8 4).2 = (7, 0) := by decide +kernel
theorem wR9 : wT4.kept = 1 := by decide +kernel
theorem wR10 : (wT4.expire 5).2 = [⟨1, 8, 5, 4⟩] := by decide +kernel
theorem wR11 : wT5.finds 1 5 = (⟨0, 0, 0, 0⟩, 6) := by decide +kernel
theorem wR12 : (wT5.opens 1 5).2 = (2, 0) := by decide +kernel
theorem wR13 : (wT6.release 2 6).2 = (1, 0) := by decide +kernel
theorem wR14 : wT7.all = [] := by decide +kernel
end Go.Proofs.Lea
namespace Go.Proofs.Ytjladlniilacjaa
open Go.RowKit Go.Proofs.Lea
set_option linter.unusedVariables false
set_option linter.unusedSimpArgs false
set_option maxRecDepth 100000 in
set_option maxHeartbeats 4000000 in
theorem lworks_any (w : World) :
    Calls Try.prog 11 #[] w fun e w' => e = .returned (.bool true) ∧ Below w.heap.size w w' := by
  have NEW := Lib.hid (lv_new (w0 := w) (w := w) 2 3 (Below.refl _ _))
  obtain ⟨g, hg⟩ : ∃ g, g = w.heap.size := ⟨_, rfl⟩
  rw [← hg] at NEW
  have HG := Lib.hid hg
  clear hg
  go_enter Try.func11, Try.ntmps11
  go_wp2_with fail
  refine NEW.out.mono ?_
  rintro e w1 ⟨rfl, h⟩
  have H1 : Hid (Lv w g wT0 _ _ w1) := Lib.hid h
  clear h NEW
  go_wp2_with fail
  refine (lv_open H1.out 7 0 (by decide)).mono ?_
  rintro e w2 ⟨rfl, vs2, ve2, h, _⟩
  rw [wR0]
  have H2 : Hid (Lv w g wT1 vs2 ve2 w2) := Lib.hid h
  clear h H1
  dsimp only
  go_wp2_with fail
  refine (lv_find H2.out 1 2).mono ?_
  rintro e w3 ⟨rfl, h⟩
  rw [wR1]
  have H3 := Lib.hid (H2.out.call h)
  clear h H2
  dsimp only
  go_wp2_with fail
  have S4 := Lib.hid (H3.out.nblk #[.int .i64 1, .int .i64 7, .int .i64 3, .int .i64 0] 29)
  have H4 := Lib.hid (H3.out.alloc (.cells #[.int .i64 1, .int .i64 7, .int .i64 3, .int .i64 0] 29))
  generalize w3.heap.size = sb at *
  generalize w3.alloc (.cells #[.int .i64 1, .int .i64 7, .int .i64 3, .int .i64 0] 29) = w4 at *
  clear H3
  refine (lv_find H4.out 1 3).mono ?_
  rintro e w5 ⟨rfl, h⟩
  rw [wR2]
  have H5 := Lib.hid (H4.out.call h)
  have S5 := Lib.hid (S4.out.call h)
  clear h H4 S4
  dsimp only
  go_wp2_with fail
  have H6 := Lib.hid (H5.out.alloc (.cells #[.int .i64 0, .int .i64 0, .int .i64 0, .int .i64 0] 29))
  have S6 := Lib.hid (S5.out.alloc (.cells #[.int .i64 0, .int .i64 0, .int .i64 0, .int .i64 0] 29))
  generalize w5.heap.size = sb2 at *
  generalize w5.alloc (.cells #[.int .i64 0, .int .i64 0, .int .i64 0, .int .i64 0] 29) = w6 at *
  clear H5 S5
  refine (lv_find H6.out 9 0).mono ?_
  rintro e w7 ⟨rfl, h⟩
  rw [wR3]
  have H7 := Lib.hid (H6.out.call h)
  have S7 := Lib.hid (S6.out.call h)
  clear h H6 S6
  dsimp only
  go_wp2_with fail
  have H8 := Lib.hid (H7.out.alloc (.cells #[.int .i64 0, .int .i64 0, .int .i64 0, .int .i64 0] 29))
  have S8 := Lib.hid (S7.out.alloc (.cells #[.int .i64 0, .int .i64 0, .int .i64 0, .int .i64 0] 29))
  generalize w7.heap.size = sb3 at *
  generalize w7.alloc (.cells #[.int .i64 0, .int .i64 0, .int .i64 0, .int .i64 0] 29) = w8 at *
  clear H7 S7
  refine (lv_store H8.out 1 4 ⟨#[120]⟩).mono ?_
  rintro e w9 ⟨rfl, vs9, ve9, h, hk⟩
  rw [wR4]
  have H9 : Hid (Lv w g wT2 vs9 ve9 w9) := Lib.hid h
  have S9 := Lib.hid (hk.blk S8.out)
  clear h hk H8 S8
  dsimp only
  go_wp2_with fail
  refine ((replay_any H9.out.lt 1 4)).mono ?_
  rintro e w10 ⟨rfl, h⟩
  rw [wR5]
  have H10 := Lib.hid (H9.out.call h)
  have S10 := Lib.hid (S9.out.call h)
  clear h H9 S9
  dsimp only
  go_wp2_with fail
  refine ((replay_any H10.out.lt 1 5)).mono ?_
  rintro e w11 ⟨rfl, h⟩
  rw [wR6]
  have H11 := Lib.hid (H10.out.call h)
  have S11 := Lib.hid (S10.out.call h)
  clear h H10 S10
  dsimp only
  go_wp2_with fail
  refine (lv_renew H11.out 1 2 (by decide)).mono ?_
  rintro e w12 ⟨rfl, vs12, ve12, h, hk⟩
  rw [wR7]
  have H12 : Hid (Lv w g wT3 vs12 ve12 w12) := Lib.hid h
  have S12 := Lib.hid (hk.blk S11.out)
  clear h hk H11 S11
  dsimp only
  go_wp2_with fail
  refine (lv_repin H12.out 1 8 4).mono ?_
  rintro e w13 ⟨rfl, vs13, ve13, h, hk⟩
  rw [wR8]
  have H13 : Hid (Lv w g wT4 vs13 ve13 w13) := Lib.hid h
  have S13 := Lib.hid (hk.blk S12.out)
  clear h hk H12 S12
  dsimp only
  go_wp2_with fail
  refine (kept_any H13.out.lt).mono ?_
  rintro e w14 ⟨rfl, h⟩
  rw [wR9]
  have H14 := Lib.hid (H13.out.call h)
  have S14 := Lib.hid (S13.out.call h)
  clear h H13 S13
  go_wp2_with fail
  refine (lv_expire H14.out 5).mono ?_
  rintro e w15 ⟨v15, rfl, _, vs15, ve15, h, hr, hk⟩
  have H15 : Hid (Lv w g wT5 vs15 ve15 w15) := Lib.hid h
  rw [wR10] at hr
  have R15 := Lib.hid hr
  have S15 := Lib.hid (hk.blk S14.out)
  clear h hr hk H14 S14
  go_wp2_with fail
  refine (lv_find H15.out 1 5).mono ?_
  rintro e w16 ⟨rfl, h⟩
  rw [wR11]
  have H16 := Lib.hid (H15.out.call h)
  have S16 := Lib.hid (S15.out.call h)
  have R16 := Lib.hid (R15.out.call h)
  clear h H15 S15 R15
  dsimp only
  go_wp2_with fail
  have H17 := Lib.hid (H16.out.alloc (.cells #[.int .i64 0, .int .i64 0, .int .i64 0, .int .i64 0] 29))
  have S17 := Lib.hid (S16.out.alloc (.cells #[.int .i64 0, .int .i64 0, .int .i64 0, .int .i64 0] 29))
  have R17 := Lib.hid (R16.out.alloc (.cells #[.int .i64 0, .int .i64 0, .int .i64 0, .int .i64 0] 29))
  generalize w16.heap.size = sb4 at *
  generalize w16.alloc (.cells #[.int .i64 0, .int .i64 0, .int .i64 0, .int .i64 0] 29) = w17 at *
  clear H16 S16 R16
  refine (lv_open H17.out 1 5 (by decide)).mono ?_
  rintro e w18 ⟨rfl, vs18, ve18, h, hk⟩
  rw [wR12]
  have H18 : Hid (Lv w g wT6 vs18 ve18 w18) := Lib.hid h
  have S18 := Lib.hid (hk.blk S17.out)
  have R18 := Lib.hid (hk.row R17.out)
  clear h hk H17 S17 R17
  dsimp only
  go_wp2_with fail
  refine (lv_release H18.out 2 6).mono ?_
  rintro e w19 ⟨rfl, vs19, ve19, h, hk⟩
  rw [wR13]
  have H19 : Hid (Lv w g wT7 vs19 ve19 w19) := Lib.hid h
  have S19 := Lib.hid (hk.blk S18.out)
  have R19 := Lib.hid (hk.row R18.out)
  clear h hk H18 S18 R18
  dsimp only
  obtain ⟨A15, c15, hv15, hlt15, hvs⟩ := Vs.of_own R19.out.1 (flatS_length _)
  subst hv15
  obtain ⟨b15, o15, rfl, _, hc15⟩ := hvs.at_ 1 (.int .i64 8) rfl
  have q1 : w19.cell? ⟨b15, o15 + 1, none⟩ = some (.int .i64 8) := hc15 1 _ rfl
  have p1 : w19.cell? ⟨sb, 1, none⟩ = some (.int .i64 7) := by rw [S19.out.1.cell]; rfl
  have p2 : w19.cell? ⟨sb, 2, none⟩ = some (.int .i64 3) := by rw [S19.out.1.cell]; rfl
  clear hvs hc15 hlt15
  dsimp only [List.length_cons, List.length_nil]
  go_wp2_with fail
  refine (lv_all H19.out).mono ?_
  rintro e w20 ⟨v20, rfl, h1, _, h⟩
  rw [wR14] at h1
  obtain ⟨A20, c20, hv20, _, _⟩ := Vs.of_own h1 (flatS_length _)
  subst hv20
  have H20 := Lib.hid (H19.out.call h)
  clear h h1 H19
  dsimp only [List.length_cons, List.length_nil]
  go_wp2_with fail
  go_ret
  exact ⟨rfl, H20.out.below⟩
end Go.Proofs.Ytjladlniilacjaa
