/-
  Package lease: Kept.
-/
import Derived.Test.YtjladlniilacjaaLeaAll
import Derived.Deep.MidRow
namespace Go.Proofs.Ytjladlniilacjaa
open Go.RowKit Go.Proofs.Lea
set_option linter.unusedVariables false
set_option linter.unusedSimpArgs false
section
variable {B m : Nat} {t : Tbl} {vs : Nat → Value} {ve : Value} {w : World}
set_option maxRecDepth 100000 in
set_option maxHeartbeats 4000000 in
theorem kept_any (h : Lt B m t vs ve w) :
    Calls Try.prog 16 #[.pointer (some ⟨m, 0, none⟩)] w fun e w' => e = .returned (.int .i64 (t.kept : Int)) ∧ Below w.heap.size w w' := by
  obtain ⟨A0, c0, hv0, _, _⟩ := Vs.of_own (h.rows 0 (by decide)) (flatA_length _)
  obtain ⟨A1, c1, hv1, _, _⟩ := Vs.of_own (h.rows 1 (by decide)) (flatA_length _)
  obtain ⟨A2, c2, hv2, _, _⟩ := Vs.of_own (h.rows 2 (by decide)) (flatA_length _)
  obtain ⟨A3, c3, hv3, _, _⟩ := Vs.of_own (h.rows 3 (by decide)) (flatA_length _)
  obtain ⟨n0, hn0⟩ : ∃ z, z = (t.sl 0).kept.length := ⟨_, rfl⟩
  rw [← hn0] at hv0
  have hk0 := h.ok.kept 0 (by decide)
  rw [← hn0] at hk0
  obtain ⟨x0, hx0⟩ : ∃ z, z = (t.sl 0).s.id := ⟨_, rfl⟩
  obtain ⟨y0, hy0⟩ : ∃ z, z = (t.sl 0).s.block := ⟨_, rfl⟩
  obtain ⟨z0, hz0⟩ : ∃ z, z = (t.sl 0).s.dead := ⟨_, rfl⟩
  obtain ⟨u0, hu0⟩ : ∃ z, z = (t.sl 0).s.last := ⟨_, rfl⟩
  obtain ⟨n1, hn1⟩ : ∃ z, z = (t.sl 1).kept.length := ⟨_, rfl⟩
  rw [← hn1] at hv1
  have hk1 := h.ok.kept 1 (by decide)
  rw [← hn1] at hk1
  obtain ⟨x1, hx1⟩ : ∃ z, z = (t.sl 1).s.id := ⟨_, rfl⟩
  obtain ⟨y1, hy1⟩ : ∃ z, z = (t.sl 1).s.block := ⟨_, rfl⟩
  obtain ⟨z1, hz1⟩ : ∃ z, z = (t.sl 1).s.dead := ⟨_, rfl⟩
  obtain ⟨u1, hu1⟩ : ∃ z, z = (t.sl 1).s.last := ⟨_, rfl⟩
  obtain ⟨n2, hn2⟩ : ∃ z, z = (t.sl 2).kept.length := ⟨_, rfl⟩
  rw [← hn2] at hv2
  have hk2 := h.ok.kept 2 (by decide)
  rw [← hn2] at hk2
  obtain ⟨x2, hx2⟩ : ∃ z, z = (t.sl 2).s.id := ⟨_, rfl⟩
  obtain ⟨y2, hy2⟩ : ∃ z, z = (t.sl 2).s.block := ⟨_, rfl⟩
  obtain ⟨z2, hz2⟩ : ∃ z, z = (t.sl 2).s.dead := ⟨_, rfl⟩
  obtain ⟨u2, hu2⟩ : ∃ z, z = (t.sl 2).s.last := ⟨_, rfl⟩
  obtain ⟨n3, hn3⟩ : ∃ z, z = (t.sl 3).kept.length := ⟨_, rfl⟩
  rw [← hn3] at hv3
  have hk3 := h.ok.kept 3 (by decide)
  rw [← hn3] at hk3
  obtain ⟨x3, hx3⟩ : ∃ z, z = (t.sl 3).s.id := ⟨_, rfl⟩
  obtain ⟨y3, hy3⟩ : ∃ z, z = (t.sl 3).s.block := ⟨_, rfl⟩
  obtain ⟨z3, hz3⟩ : ∃ z, z = (t.sl 3).s.dead := ⟨_, rfl⟩
  obtain ⟨u3, hu3⟩ : ∃ z, z = (t.sl 3).s.last := ⟨_, rfl⟩
  have hkept : t.kept = n0 + n1 + n2 + n3 := by unfold Tbl.kept; rw [hn0, hn1, hn2, hn3]
  rw [hkept]
  have rg : w.rangeAt m 2 [.int .i64 x0, .int .i64 y0, .int .i64 z0, .int .i64 u0, .slice A0 n0 c0, .int .i64 x1, .int .i64 y1, .int .i64 z1, .int .i64 u1, .slice A1 n1 c1, .int .i64 x2, .int .i64 y2, .int .i64 z2, .int .i64 u2, .slice A2 n2 c2, .int .i64 x3, .int .i64 y3, .int .i64 z3, .int .i64 u3, .slice A3 n3 c3] := fun j v hj => by
    rw [h.blk.cell]
    unfold tC
    rw [hv0, hv1, hv2, hv3, ← hx0, ← hy0, ← hz0, ← hu0, ← hx1, ← hy1, ← hz1, ← hu1, ← hx2, ← hy2, ← hz2, ← hu2, ← hx3, ← hy3, ← hz3, ← hu3]
    have hlt := (List.getElem?_eq_some_iff.1 hj).1
    simp only [List.length_cons, List.length_nil] at hlt
    have hc : j = 0 ∨ j = 1 ∨ j = 2 ∨ j = 3 ∨ j = 4 ∨ j = 5 ∨ j = 6 ∨ j = 7 ∨ j = 8 ∨ j = 9 ∨ j = 10 ∨ j = 11 ∨ j = 12 ∨ j = 13 ∨ j = 14 ∨ j = 15 ∨ j = 16 ∨ j = 17 ∨ j = 18 ∨ j = 19 := by omega
    rcases hc with rfl | rfl | rfl | rfl | rfl | rfl | rfl | rfl | rfl | rfl | rfl | rfl | rfl | rfl | rfl | rfl | rfl | rfl | rfl | rfl
    all_goals exact hj
  have RG := Lib.hid rg
  have HB0 := Lib.hid (Bl.start w)
  have ix0 : ∀ W, (Instr.index 90 (.agg #[.int .i64 x0, .int .i64 y0, .int .i64 z0, .int .i64 u0, .slice A0 n0 c0, .int .i64 x1, .int .i64 y1, .int .i64 z1, .int .i64 u1, .slice A1 n1 c1, .int .i64 x2, .int .i64 y2, .int .i64 z2, .int .i64 u2, .slice A2 n2 c2, .int .i64 x3, .int .i64 y3, .int .i64 z3, .int .i64 u3, .slice A3 n3 c3]) (.int .i64 0)).run Try.prog W = .ok (.agg #[.int .i64 x0, .int .i64 y0, .int .i64 z0, .int .i64 u0, .slice A0 n0 c0]) W := fun W => by kernel_rfl
  have ix1 : ∀ W, (Instr.index 90 (.agg #[.int .i64 x0, .int .i64 y0, .int .i64 z0, .int .i64 u0, .slice A0 n0 c0, .int .i64 x1, .int .i64 y1, .int .i64 z1, .int .i64 u1, .slice A1 n1 c1, .int .i64 x2, .int .i64 y2, .int .i64 z2, .int .i64 u2, .slice A2 n2 c2, .int .i64 x3, .int .i64 y3, .int .i64 z3, .int .i64 u3, .slice A3 n3 c3]) (.int .i64 1)).run Try.prog W = .ok (.agg #[.int .i64 x1, .int .i64 y1, .int .i64 z1, .int .i64 u1, .slice A1 n1 c1]) W := fun W => by kernel_rfl
  have ix2 : ∀ W, (Instr.index 90 (.agg #[.int .i64 x0, .int .i64 y0, .int .i64 z0, .int .i64 u0, .slice A0 n0 c0, .int .i64 x1, .int .i64 y1, .int .i64 z1, .int .i64 u1, .slice A1 n1 c1, .int .i64 x2, .int .i64 y2, .int .i64 z2, .int .i64 u2, .slice A2 n2 c2, .int .i64 x3, .int .i64 y3, .int .i64 z3, .int .i64 u3, .slice A3 n3 c3]) (.int .i64 2)).run Try.prog W = .ok (.agg #[.int .i64 x2, .int .i64 y2, .int .i64 z2, .int .i64 u2, .slice A2 n2 c2]) W := fun W => by kernel_rfl
  have ix3 : ∀ W, (Instr.index 90 (.agg #[.int .i64 x0, .int .i64 y0, .int .i64 z0, .int .i64 u0, .slice A0 n0 c0, .int .i64 x1, .int .i64 y1, .int .i64 z1, .int .i64 u1, .slice A1 n1 c1, .int .i64 x2, .int .i64 y2, .int .i64 z2, .int .i64 u2, .slice A2 n2 c2, .int .i64 x3, .int .i64 y3, .int .i64 z3, .int .i64 u3, .slice A3 n3 c3]) (.int .i64 3)).run Try.prog W = .ok (.agg #[.int .i64 x3, .int .i64 y3, .int .i64 z3, .int .i64 u3, .slice A3 n3 c3]) W := fun W => by kernel_rfl
  have wk1 : IntKind.i64.wrap ((n0 : Int) + (n1 : Int)) = (n0 : Int) + (n1 : Int) := IntWalk.i64_in _ (by omega)
  have wk2 : IntKind.i64.wrap ((n0 : Int) + (n1 : Int) + (n2 : Int)) = (n0 : Int) + (n1 : Int) + (n2 : Int) := IntWalk.i64_in _ (by omega)
  have wk3 : IntKind.i64.wrap ((n0 : Int) + (n1 : Int) + (n2 : Int) + (n3 : Int)) = (n0 : Int) + (n1 : Int) + (n2 : Int) + (n3 : Int) := IntWalk.i64_in _ (by omega)
  clear h rg hkept hv0 hv1 hv2 hv3 hn0 hn1 hn2 hn3 hx0 hy0 hz0 hu0 hx1 hy1 hz1 hu1 hx2 hy2 hz2 hu2 hx3 hy3 hz3 hu3
  go_enter Try.func16, Try.ntmps16
  go_upto_region 2 with (fail)
  refine wp_region_lit (Segs.WL.out ?_)
  refine Segs.WL.val (some 6) (.pointer (some ⟨m, 0, none⟩)) w rfl (by kernel_rfl) (by kernel_rfl) ?_
  simp only [Act.put, List.setIfInBounds_toArray, List.set_cons_zero, List.set_cons_succ]
  refine Segs.WL.val (some 7) (.pointer (some ⟨m, 0, none⟩)) w rfl (by kernel_rfl) (by kernel_rfl) ?_
  simp only [Act.put, List.setIfInBounds_toArray, List.set_cons_zero, List.set_cons_succ]
  refine Segs.WL.val (some 8) (.pointer (some ⟨m, 2, none⟩)) w rfl (by kernel_rfl) (by kernel_rfl) ?_
  simp only [Act.put, List.setIfInBounds_toArray, List.set_cons_zero, List.set_cons_succ]
  refine Segs.WL.val (some 9) (.agg #[.int .i64 x0, .int .i64 y0, .int .i64 z0, .int .i64 u0, .slice A0 n0 c0, .int .i64 x1, .int .i64 y1, .int .i64 z1, .int .i64 u1, .slice A1 n1 c1, .int .i64 x2, .int .i64 y2, .int .i64 z2, .int .i64 u2, .slice A2 n2 c2, .int .i64 x3, .int .i64 y3, .int .i64 z3, .int .i64 u3, .slice A3 n3 c3]) w rfl (by kernel_rfl) (Segs.run_mid (ty := 90) (x := .tmp 8) rfl m 2 (by kernel_rfl) [.int .i64 x0, .int .i64 y0, .int .i64 z0, .int .i64 u0, .slice A0 n0 c0, .int .i64 x1, .int .i64 y1, .int .i64 z1, .int .i64 u1, .slice A1 n1 c1, .int .i64 x2, .int .i64 y2, .int .i64 z2, .int .i64 u2, .slice A2 n2 c2, .int .i64 x3, .int .i64 y3, .int .i64 z3, .int .i64 u3, .slice A3 n3 c3] (.array 4 89) RG.out Try.underlying90 rfl (by kernel_rfl)) ?_
  simp only [Act.put, List.setIfInBounds_toArray, List.set_cons_zero, List.set_cons_succ]
  refine Segs.WL.val (some 10) (.int .i64 0) w rfl (by kernel_rfl) (by kernel_rfl) ?_
  simp only [Act.put, List.setIfInBounds_toArray, List.set_cons_zero, List.set_cons_succ]
  refine Segs.WL.nil ?_
  go_wp2_with fail
  refine wp_loop_rounds 5 ?_
  rw [rounds_succ]
  go_wp2_with fail
  rw [rounds_succ]
  go_wp2_with fail
  rw [rounds_succ]
  go_wp2_with fail
  rw [rounds_succ]
  go_wp2_with fail
  rw [rounds_succ]
  go_wp2_with fail
  go_ret
  exact ⟨ret_int (by omega), ((((HB0.out.alloc _).alloc _).alloc _).alloc _).1⟩
end
end Go.Proofs.Ytjladlniilacjaa
