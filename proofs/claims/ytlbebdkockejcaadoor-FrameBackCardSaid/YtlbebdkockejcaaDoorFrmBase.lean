/-
  Package frame: what may be in a number, a root, an entry; numbers and flags as items.
-/
import Derived.Test.YtlbebdkockejcaaDoorFrmPlain
import Derived.Test.YtlbebdkockejcaaDoorGaRlp
import Derived.Test.YtlbebdkockejcaaDoorGaFar
import Derived.Test.YtlbebdkockejcaaDoorGaRun
namespace Go.Proofs.YtlbebdkockejcaaDoor
open Go.RowKit Go.Proofs.Frm
set_option linter.unusedVariables false
set_option linter.unusedSimpArgs false
set_option maxRecDepth 100000 in
set_option maxHeartbeats 1000000 in
/-- within. -/
theorem within_any (n a b : Int) (w : World) :
    Calls Tryd.prog 27 #[.int .i64 n, .int .i64 a, .int .i64 b] w fun e w' => e = .returned (.bool (wi n a b)) ∧ w = w' := by
  unfold wi
  by_cases h1 : a ≤ n
  · have d1 : decide (a ≤ n) = true := decide_eq_true h1
    go_enter Tryd.func27, Tryd.ntmps27
    go_wp2_with fail
    go_ret
    refine ⟨?_, rfl⟩
    simp [h1]
  · have d1 : decide (a ≤ n) = false := decide_eq_false h1
    go_enter Tryd.func27, Tryd.ntmps27
    go_wp2_with fail
    go_ret
    refine ⟨?_, rfl⟩
    simp [h1]
set_option maxRecDepth 100000 in
set_option maxHeartbeats 1000000 in
/-- isRoot. -/
theorem isRoot_any (s : ByteArray) (w : World) :
    Calls Tryd.prog 32 #[.string s] w fun e w' => e = .returned (.bool (rootOk s)) ∧ w = w' := by
  have hl : s.toList.length = s.size := by rw [Lib.toList_data]; simp
  unfold rootOk
  by_cases h0 : s.size = 0
  · have e0 : s.toList.isEmpty = true := by rw [List.isEmpty_iff, ← List.length_eq_zero_iff, hl, h0]
    have e1 : s.toList = [] := List.isEmpty_iff.1 e0
    go_enter Tryd.func32, Tryd.ntmps32
    go_wp2_with fail
    all_goals go_ret
    all_goals (refine ⟨?_, rfl⟩; simp [h0, e0, e1])
  · have e0 : s.toList.isEmpty = false := by rw [Bool.eq_false_iff, Ne, List.isEmpty_iff, ← List.length_eq_zero_iff, hl]; exact h0
    have e1 : ¬ s.toList = [] := fun e => by rw [e] at e0; cases e0
    go_enter Tryd.func32, Tryd.ntmps32
    go_wp2_with fail
    all_goals go_ret
    all_goals (refine ⟨?_, rfl⟩; simp [h0, e0, e1]; try (rw [Bool.eq_iff_iff]; simp; omega))
set_option maxRecDepth 100000 in
set_option maxHeartbeats 1000000 in
/-- isLarge. -/
theorem isLarge_any (k v : ByteArray) (w : World) :
    Calls Tryd.prog 35 #[.string k, .string v] w fun e w' => e = .returned (.bool (!(decide (k.size ≤ 6) && decide (v.size ≤ 80)))) ∧ w = w' := by
  go_enter Tryd.func35, Tryd.ntmps35
  go_wp2_with fail
  all_goals go_ret
  all_goals (refine ⟨congrArg (fun b => Ending.returned (Value.bool b)) (?_ : (_ : Bool) = _), rfl⟩)
  all_goals (rw [Bool.eq_iff_iff]; simp; try omega)
set_option maxRecDepth 100000 in
set_option maxHeartbeats 1000000 in
/-- A number as an item. -/
theorem number_any (n : Int) (w : World) (h0 : 0 ≤ n) (h1 : n ≤ 9223372036854775807) :
    Calls Tryd.prog 23 #[.int .i64 n] w fun e w' => e = .returned (.string (numZ n)) ∧ Below w.heap.size w w' := by
  obtain ⟨m, rfl⟩ := Int.eq_ofNat_of_zero_le h0
  have HN := Lib.hid (num_any m w (by omega))
  go_enter Tryd.func23, Tryd.ntmps23
  go_wp2_with (first
    | (go_at_call 43; refine HN.out.mono ?_; rintro e w1 ⟨rfl, hb⟩; have B1 := Lib.hid hb; clear hb))
  go_ret
  exact ⟨rfl, B1.out⟩
set_option maxRecDepth 100000 in
set_option maxHeartbeats 1000000 in
/-- A flag as an item. -/
theorem flag_any (b : Bool) (w : World) :
    Calls Tryd.prog 28 #[.bool b] w fun e w' => e = .returned (.string (flagB b)) ∧ Below w.heap.size w w' := by
  have HN := Lib.hid (number_any (if b then 1 else 0) w (by split <;> decide) (by split <;> decide))
  unfold flagB
  cases b <;>
  (go_enter Tryd.func28, Tryd.ntmps28
   go_wp2_with (first
    | (go_at_call 23; refine HN.out.mono ?_; rintro e w1 ⟨rfl, hb⟩; have B1 := Lib.hid hb; clear hb))
   go_ret
   exact ⟨rfl, B1.out⟩)
end Go.Proofs.YtlbebdkockejcaaDoor
