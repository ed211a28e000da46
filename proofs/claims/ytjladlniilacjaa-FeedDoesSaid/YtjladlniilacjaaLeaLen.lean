/-
  math/bits.Len at small numbers.
-/
import Derived.Test.YtjladlniilacjaaGaStep
import Derived.Deep.Cut
namespace Go.Proofs.Ytjladlniilacjaa
open Go.RowKit
set_option linter.unusedVariables false
set_option linter.unusedSimpArgs false
set_option maxRecDepth 100000 in
theorem len64_0 (w : World) : Calls Try.prog 94 #[.int .u64 0] w fun e w' => e = .returned (.int .i64 0) ∧ w = w' := by
  go_enter Try.func94, Try.ntmps94
  go_upto_region 1 with (fail)
  refine wp_region_lit (Segs.WL.out ?_)
  refine Segs.WL.val (some 3) (.int .u64 0) w rfl (by kernel_rfl) (by kernel_rfl) ?_
  simp only [Act.put, List.setIfInBounds_toArray, List.set_cons_zero, List.set_cons_succ]
  refine Segs.WL.val (some 4) (.bool false) w rfl (by kernel_rfl) (by kernel_rfl) ?_
  simp only [Act.put, List.setIfInBounds_toArray, List.set_cons_zero, List.set_cons_succ]
  refine Segs.WL.nil ?_
  go_upto_region 4 with (fail)
  refine wp_region_lit (Segs.WL.out ?_)
  refine Segs.WL.val (some 7) (.int .u64 0) w rfl (by kernel_rfl) (by kernel_rfl) ?_
  simp only [Act.put, List.setIfInBounds_toArray, List.set_cons_zero, List.set_cons_succ]
  refine Segs.WL.val (some 8) (.bool false) w rfl (by kernel_rfl) (by kernel_rfl) ?_
  simp only [Act.put, List.setIfInBounds_toArray, List.set_cons_zero, List.set_cons_succ]
  refine Segs.WL.nil ?_
  go_upto_region 7 with (fail)
  refine wp_region_lit (Segs.WL.out ?_)
  refine Segs.WL.val (some 13) (.int .u64 0) w rfl (by kernel_rfl) (by kernel_rfl) ?_
  simp only [Act.put, List.setIfInBounds_toArray, List.set_cons_zero, List.set_cons_succ]
  refine Segs.WL.val (some 14) (.bool false) w rfl (by kernel_rfl) (by kernel_rfl) ?_
  simp only [Act.put, List.setIfInBounds_toArray, List.set_cons_zero, List.set_cons_succ]
  refine Segs.WL.nil ?_
  go_upto_region 10 with (fail)
  refine wp_region_lit (Segs.WL.out ?_)
  refine Segs.WL.val (some 19) (.int .i64 0) w rfl (by kernel_rfl) (by kernel_rfl) ?_
  simp only [Act.put, List.setIfInBounds_toArray, List.set_cons_zero, List.set_cons_succ]
  refine Segs.WL.val (some 20) (.int .u64 0) w rfl (by kernel_rfl) (by kernel_rfl) ?_
  simp only [Act.put, List.setIfInBounds_toArray, List.set_cons_zero, List.set_cons_succ]
  refine Segs.WL.val (some 21) (.int .u8 0) w rfl (by kernel_rfl) (by kernel_rfl) ?_
  simp only [Act.put, List.setIfInBounds_toArray, List.set_cons_zero, List.set_cons_succ]
  refine Segs.WL.val (some 22) (.int .u8 0) w rfl (by kernel_rfl) (by kernel_rfl) ?_
  simp only [Act.put, List.setIfInBounds_toArray, List.set_cons_zero, List.set_cons_succ]
  refine Segs.WL.val (some 23) (.int .i64 0) w rfl (by kernel_rfl) (by kernel_rfl) ?_
  simp only [Act.put, List.setIfInBounds_toArray, List.set_cons_zero, List.set_cons_succ]
  refine Segs.WL.val (some 24) (.int .i64 0) w rfl (by kernel_rfl) (by kernel_rfl) ?_
  simp only [Act.put, List.setIfInBounds_toArray, List.set_cons_zero, List.set_cons_succ]
  refine Segs.WL.val (some 2) (.int .i64 0) w rfl (by kernel_rfl) (by kernel_rfl) ?_
  simp only [Act.put, List.setIfInBounds_toArray, List.set_cons_zero, List.set_cons_succ]
  refine Segs.WL.nil ?_
  go_wp2_with fail
  go_ret
  exact ⟨rfl, rfl⟩
set_option maxRecDepth 100000 in
theorem len64_1 (w : World) : Calls Try.prog 94 #[.int .u64 1] w fun e w' => e = .returned (.int .i64 1) ∧ w = w' := by
  go_enter Try.func94, Try.ntmps94
  go_upto_region 1 with (fail)
  refine wp_region_lit (Segs.WL.out ?_)
  refine Segs.WL.val (some 3) (.int .u64 1) w rfl (by kernel_rfl) (by kernel_rfl) ?_
  simp only [Act.put, List.setIfInBounds_toArray, List.set_cons_zero, List.set_cons_succ]
  refine Segs.WL.val (some 4) (.bool false) w rfl (by kernel_rfl) (by kernel_rfl) ?_
  simp only [Act.put, List.setIfInBounds_toArray, List.set_cons_zero, List.set_cons_succ]
  refine Segs.WL.nil ?_
  go_upto_region 4 with (fail)
  refine wp_region_lit (Segs.WL.out ?_)
  refine Segs.WL.val (some 7) (.int .u64 1) w rfl (by kernel_rfl) (by kernel_rfl) ?_
  simp only [Act.put, List.setIfInBounds_toArray, List.set_cons_zero, List.set_cons_succ]
  refine Segs.WL.val (some 8) (.bool false) w rfl (by kernel_rfl) (by kernel_rfl) ?_
  simp only [Act.put, List.setIfInBounds_toArray, List.set_cons_zero, List.set_cons_succ]
  refine Segs.WL.nil ?_
  go_upto_region 7 with (fail)
  refine wp_region_lit (Segs.WL.out ?_)
  refine Segs.WL.val (some 13) (.int .u64 1) w rfl (by kernel_rfl) (by kernel_rfl) ?_
  simp only [Act.put, List.setIfInBounds_toArray, List.set_cons_zero, List.set_cons_succ]
  refine Segs.WL.val (some 14) (.bool false) w rfl (by kernel_rfl) (by kernel_rfl) ?_
  simp only [Act.put, List.setIfInBounds_toArray, List.set_cons_zero, List.set_cons_succ]
  refine Segs.WL.nil ?_
  go_upto_region 10 with (fail)
  refine wp_region_lit (Segs.WL.out ?_)
  refine Segs.WL.val (some 19) (.int .i64 0) w rfl (by kernel_rfl) (by kernel_rfl) ?_
  simp only [Act.put, List.setIfInBounds_toArray, List.set_cons_zero, List.set_cons_succ]
  refine Segs.WL.val (some 20) (.int .u64 1) w rfl (by kernel_rfl) (by kernel_rfl) ?_
  simp only [Act.put, List.setIfInBounds_toArray, List.set_cons_zero, List.set_cons_succ]
  refine Segs.WL.val (some 21) (.int .u8 1) w rfl (by kernel_rfl) (by kernel_rfl) ?_
  simp only [Act.put, List.setIfInBounds_toArray, List.set_cons_zero, List.set_cons_succ]
  refine Segs.WL.val (some 22) (.int .u8 1) w rfl (by kernel_rfl) (by kernel_rfl) ?_
  simp only [Act.put, List.setIfInBounds_toArray, List.set_cons_zero, List.set_cons_succ]
  refine Segs.WL.val (some 23) (.int .i64 1) w rfl (by kernel_rfl) (by kernel_rfl) ?_
  simp only [Act.put, List.setIfInBounds_toArray, List.set_cons_zero, List.set_cons_succ]
  refine Segs.WL.val (some 24) (.int .i64 1) w rfl (by kernel_rfl) (by kernel_rfl) ?_
  simp only [Act.put, List.setIfInBounds_toArray, List.set_cons_zero, List.set_cons_succ]
  refine Segs.WL.val (some 2) (.int .i64 1) w rfl (by kernel_rfl) (by kernel_rfl) ?_
  simp only [Act.put, List.setIfInBounds_toArray, List.set_cons_zero, List.set_cons_succ]
  refine Segs.WL.nil ?_
  go_wp2_with fail
  go_ret
  exact ⟨rfl, rfl⟩
set_option maxRecDepth 100000 in
theorem len64_2 (w : World) : Calls Try.prog 94 #[.int .u64 2] w fun e w' => e = .returned (.int .i64 2) ∧ w = w' := by
  go_enter Try.func94, Try.ntmps94
  go_upto_region 1 with (fail)
  refine wp_region_lit (Segs.WL.out ?_)
  refine Segs.WL.val (some 3) (.int .u64 2) w rfl (by kernel_rfl) (by kernel_rfl) ?_
  simp only [Act.put, List.setIfInBounds_toArray, List.set_cons_zero, List.set_cons_succ]
  refine Segs.WL.val (some 4) (.bool false) w rfl (by kernel_rfl) (by kernel_rfl) ?_
  simp only [Act.put, List.setIfInBounds_toArray, List.set_cons_zero, List.set_cons_succ]
  refine Segs.WL.nil ?_
  go_upto_region 4 with (fail)
  refine wp_region_lit (Segs.WL.out ?_)
  refine Segs.WL.val (some 7) (.int .u64 2) w rfl (by kernel_rfl) (by kernel_rfl) ?_
  simp only [Act.put, List.setIfInBounds_toArray, List.set_cons_zero, List.set_cons_succ]
  refine Segs.WL.val (some 8) (.bool false) w rfl (by kernel_rfl) (by kernel_rfl) ?_
  simp only [Act.put, List.setIfInBounds_toArray, List.set_cons_zero, List.set_cons_succ]
  refine Segs.WL.nil ?_
  go_upto_region 7 with (fail)
  refine wp_region_lit (Segs.WL.out ?_)
  refine Segs.WL.val (some 13) (.int .u64 2) w rfl (by kernel_rfl) (by kernel_rfl) ?_
  simp only [Act.put, List.setIfInBounds_toArray, List.set_cons_zero, List.set_cons_succ]
  refine Segs.WL.val (some 14) (.bool false) w rfl (by kernel_rfl) (by kernel_rfl) ?_
  simp only [Act.put, List.setIfInBounds_toArray, List.set_cons_zero, List.set_cons_succ]
  refine Segs.WL.nil ?_
  go_upto_region 10 with (fail)
  refine wp_region_lit (Segs.WL.out ?_)
  refine Segs.WL.val (some 19) (.int .i64 0) w rfl (by kernel_rfl) (by kernel_rfl) ?_
  simp only [Act.put, List.setIfInBounds_toArray, List.set_cons_zero, List.set_cons_succ]
  refine Segs.WL.val (some 20) (.int .u64 2) w rfl (by kernel_rfl) (by kernel_rfl) ?_
  simp only [Act.put, List.setIfInBounds_toArray, List.set_cons_zero, List.set_cons_succ]
  refine Segs.WL.val (some 21) (.int .u8 2) w rfl (by kernel_rfl) (by kernel_rfl) ?_
  simp only [Act.put, List.setIfInBounds_toArray, List.set_cons_zero, List.set_cons_succ]
  refine Segs.WL.val (some 22) (.int .u8 2) w rfl (by kernel_rfl) (by kernel_rfl) ?_
  simp only [Act.put, List.setIfInBounds_toArray, List.set_cons_zero, List.set_cons_succ]
  refine Segs.WL.val (some 23) (.int .i64 2) w rfl (by kernel_rfl) (by kernel_rfl) ?_
  simp only [Act.put, List.setIfInBounds_toArray, List.set_cons_zero, List.set_cons_succ]
  refine Segs.WL.val (some 24) (.int .i64 2) w rfl (by kernel_rfl) (by kernel_rfl) ?_
  simp only [Act.put, List.setIfInBounds_toArray, List.set_cons_zero, List.set_cons_succ]
  refine Segs.WL.val (some 2) (.int .i64 2) w rfl (by kernel_rfl) (by kernel_rfl) ?_
  simp only [Act.put, List.setIfInBounds_toArray, List.set_cons_zero, List.set_cons_succ]
  refine Segs.WL.nil ?_
  go_wp2_with fail
  go_ret
  exact ⟨rfl, rfl⟩
set_option maxRecDepth 100000 in
theorem len64_3 (w : World) : Calls Try.prog 94 #[.int .u64 3] w fun e w' => e = .returned (.int .i64 2) ∧ w = w' := by
  go_enter Try.func94, Try.ntmps94
  go_upto_region 1 with (fail)
  refine wp_region_lit (Segs.WL.out ?_)
  refine Segs.WL.val (some 3) (.int .u64 3) w rfl (by kernel_rfl) (by kernel_rfl) ?_
  simp only [Act.put, List.setIfInBounds_toArray, List.set_cons_zero, List.set_cons_succ]
  refine Segs.WL.val (some 4) (.bool false) w rfl (by kernel_rfl) (by kernel_rfl) ?_
  simp only [Act.put, List.setIfInBounds_toArray, List.set_cons_zero, List.set_cons_succ]
  refine Segs.WL.nil ?_
  go_upto_region 4 with (fail)
  refine wp_region_lit (Segs.WL.out ?_)
  refine Segs.WL.val (some 7) (.int .u64 3) w rfl (by kernel_rfl) (by kernel_rfl) ?_
  simp only [Act.put, List.setIfInBounds_toArray, List.set_cons_zero, List.set_cons_succ]
  refine Segs.WL.val (some 8) (.bool false) w rfl (by kernel_rfl) (by kernel_rfl) ?_
  simp only [Act.put, List.setIfInBounds_toArray, List.set_cons_zero, List.set_cons_succ]
  refine Segs.WL.nil ?_
  go_upto_region 7 with (fail)
  refine wp_region_lit (Segs.WL.out ?_)
  refine Segs.WL.val (some 13) (.int .u64 3) w rfl (by kernel_rfl) (by kernel_rfl) ?_
  simp only [Act.put, List.setIfInBounds_toArray, List.set_cons_zero, List.set_cons_succ]
  refine Segs.WL.val (some 14) (.bool false) w rfl (by kernel_rfl) (by kernel_rfl) ?_
  simp only [Act.put, List.setIfInBounds_toArray, List.set_cons_zero, List.set_cons_succ]
  refine Segs.WL.nil ?_
  go_upto_region 10 with (fail)
  refine wp_region_lit (Segs.WL.out ?_)
  refine Segs.WL.val (some 19) (.int .i64 0) w rfl (by kernel_rfl) (by kernel_rfl) ?_
  simp only [Act.put, List.setIfInBounds_toArray, List.set_cons_zero, List.set_cons_succ]
  refine Segs.WL.val (some 20) (.int .u64 3) w rfl (by kernel_rfl) (by kernel_rfl) ?_
  simp only [Act.put, List.setIfInBounds_toArray, List.set_cons_zero, List.set_cons_succ]
  refine Segs.WL.val (some 21) (.int .u8 3) w rfl (by kernel_rfl) (by kernel_rfl) ?_
  simp only [Act.put, List.setIfInBounds_toArray, List.set_cons_zero, List.set_cons_succ]
  refine Segs.WL.val (some 22) (.int .u8 2) w rfl (by kernel_rfl) (by kernel_rfl) ?_
  simp only [Act.put, List.setIfInBounds_toArray, List.set_cons_zero, List.set_cons_succ]
  refine Segs.WL.val (some 23) (.int .i64 2) w rfl (by kernel_rfl) (by kernel_rfl) ?_
  simp only [Act.put, List.setIfInBounds_toArray, List.set_cons_zero, List.set_cons_succ]
  refine Segs.WL.val (some 24) (.int .i64 2) w rfl (by kernel_rfl) (by kernel_rfl) ?_
  simp only [Act.put, List.setIfInBounds_toArray, List.set_cons_zero, List.set_cons_succ]
  refine Segs.WL.val (some 2) (.int .i64 2) w rfl (by kernel_rfl) (by kernel_rfl) ?_
  simp only [Act.put, List.setIfInBounds_toArray, List.set_cons_zero, List.set_cons_succ]
  refine Segs.WL.nil ?_
  go_wp2_with fail
  go_ret
  exact ⟨rfl, rfl⟩
set_option maxRecDepth 100000 in
theorem len64_4 (w : World) : Calls Try.prog 94 #[.int .u64 4] w fun e w' => e = .returned (.int .i64 3) ∧ w = w' := by
  go_enter Try.func94, Try.ntmps94
  go_upto_region 1 with (fail)
  refine wp_region_lit (Segs.WL.out ?_)
  refine Segs.WL.val (some 3) (.int .u64 4) w rfl (by kernel_rfl) (by kernel_rfl) ?_
  simp only [Act.put, List.setIfInBounds_toArray, List.set_cons_zero, List.set_cons_succ]
  refine Segs.WL.val (some 4) (.bool false) w rfl (by kernel_rfl) (by kernel_rfl) ?_
  simp only [Act.put, List.setIfInBounds_toArray, List.set_cons_zero, List.set_cons_succ]
  refine Segs.WL.nil ?_
  go_upto_region 4 with (fail)
  refine wp_region_lit (Segs.WL.out ?_)
  refine Segs.WL.val (some 7) (.int .u64 4) w rfl (by kernel_rfl) (by kernel_rfl) ?_
  simp only [Act.put, List.setIfInBounds_toArray, List.set_cons_zero, List.set_cons_succ]
  refine Segs.WL.val (some 8) (.bool false) w rfl (by kernel_rfl) (by kernel_rfl) ?_
  simp only [Act.put, List.setIfInBounds_toArray, List.set_cons_zero, List.set_cons_succ]
  refine Segs.WL.nil ?_
  go_upto_region 7 with (fail)
  refine wp_region_lit (Segs.WL.out ?_)
  refine Segs.WL.val (some 13) (.int .u64 4) w rfl (by kernel_rfl) (by kernel_rfl) ?_
  simp only [Act.put, List.setIfInBounds_toArray, List.set_cons_zero, List.set_cons_succ]
  refine Segs.WL.val (some 14) (.bool false) w rfl (by kernel_rfl) (by kernel_rfl) ?_
  simp only [Act.put, List.setIfInBounds_toArray, List.set_cons_zero, List.set_cons_succ]
  refine Segs.WL.nil ?_
  go_upto_region 10 with (fail)
  refine wp_region_lit (Segs.WL.out ?_)
  refine Segs.WL.val (some 19) (.int .i64 0) w rfl (by kernel_rfl) (by kernel_rfl) ?_
  simp only [Act.put, List.setIfInBounds_toArray, List.set_cons_zero, List.set_cons_succ]
  refine Segs.WL.val (some 20) (.int .u64 4) w rfl (by kernel_rfl) (by kernel_rfl) ?_
  simp only [Act.put, List.setIfInBounds_toArray, List.set_cons_zero, List.set_cons_succ]
  refine Segs.WL.val (some 21) (.int .u8 4) w rfl (by kernel_rfl) (by kernel_rfl) ?_
  simp only [Act.put, List.setIfInBounds_toArray, List.set_cons_zero, List.set_cons_succ]
  refine Segs.WL.val (some 22) (.int .u8 3) w rfl (by kernel_rfl) (by kernel_rfl) ?_
  simp only [Act.put, List.setIfInBounds_toArray, List.set_cons_zero, List.set_cons_succ]
  refine Segs.WL.val (some 23) (.int .i64 3) w rfl (by kernel_rfl) (by kernel_rfl) ?_
  simp only [Act.put, List.setIfInBounds_toArray, List.set_cons_zero, List.set_cons_succ]
  refine Segs.WL.val (some 24) (.int .i64 3) w rfl (by kernel_rfl) (by kernel_rfl) ?_
  simp only [Act.put, List.setIfInBounds_toArray, List.set_cons_zero, List.set_cons_succ]
  refine Segs.WL.val (some 2) (.int .i64 3) w rfl (by kernel_rfl) (by kernel_rfl) ?_
  simp only [Act.put, List.setIfInBounds_toArray, List.set_cons_zero, List.set_cons_succ]
  refine Segs.WL.nil ?_
  go_wp2_with fail
  go_ret
  exact ⟨rfl, rfl⟩
theorem bitsLen_any (x : Int) (hx : x = 0 ∨ x = 1 ∨ x = 2 ∨ x = 3 ∨ x = 4) (w : World) : Calls Try.prog 76 #[.int .u64 x] w fun e w' => (∃ l : Int, e = .returned (.int .i64 l)) ∧ w = w' := by
  have H : ∃ l : Int, Calls Try.prog 94 #[.int .u64 x] w fun e w' => e = .returned (.int .i64 l) ∧ w = w' := by
    rcases hx with rfl | rfl | rfl | rfl | rfl
    · exact ⟨_, len64_0 w⟩
    · exact ⟨_, len64_1 w⟩
    · exact ⟨_, len64_2 w⟩
    · exact ⟨_, len64_3 w⟩
    · exact ⟨_, len64_4 w⟩
  obtain ⟨l, h⟩ := H
  have H := Lib.hid h
  clear h
  go_enter Try.func76, Try.ntmps76
  go_wp2_with (go_at_call 94; refine H.out.mono ?_; rintro e w1 ⟨rfl, rfl⟩)
  go_ret
  exact ⟨⟨l, rfl⟩, rfl⟩
end Go.Proofs.Ytjladlniilacjaa
