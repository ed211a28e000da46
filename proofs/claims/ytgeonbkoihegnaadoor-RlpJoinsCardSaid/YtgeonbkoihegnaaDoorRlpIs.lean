import Derived.Test.YtgeonbkoihegnaaDoorRlpAs2
namespace Go.Proofs.YtgeonbkoihegnaaDoor
open Go.RowKit Go.Extern.Stop Go.Stop Go.Extern
set_option linter.unusedVariables false
set_option linter.unusedSimpArgs false
theorem Is.eqTypes (vx vy : Value) (w : World) : (binOp .eql 52 (.iface 76 vx) (.iface 24 vy)).run Tryd.prog w = .ok (.bool false) w := run_eql_iface_types _ _ _ _ Tryd.underlying52 (by decide) w
theorem Is.eqNil (n : Int) (w : World) : (binOp .eql 52 .nilIface (.iface 24 (.int .i64 n))).run Tryd.prog w = .ok (.bool false) w := by kernel_rfl
theorem Is.eqSame (w : World) : (binOp .eql 52 (.iface 24 (.int .i64 2)) (.iface 24 (.int .i64 2))).run Tryd.prog w = .ok (.bool true) w := by kernel_rfl
theorem Is.comparable24 (w : World) : (ReflectliteType.method (fun t => do Rtype.noPackHeld "Comparable" t; (fun a => Value.bool a.comparable) <$> typeInfo t) #[.agg #[hd 24]]).run Tryd.prog w = .ok (.bool true) w := by kernel_rfl
set_option maxRecDepth 100000 in
/-- errors.Is of no error. -/
theorem is_nil (n : Int) (w : World) :
    Calls Tryd.prog 31 #[.nilIface, .iface 24 (.int .i64 n)] w fun e w' => e = .returned (.bool false) ∧ w = w' := by
  have q0 := Is.eqNil n
  go_enter Tryd.func31, Tryd.ntmps31
  go_wp2_with fail
  go_ret
  exact ⟨rfl, rfl⟩
set_option maxRecDepth 100000 in
set_option maxHeartbeats 4000000 in
/-- errors.Is of a fault. -/
theorem is_fault (x : Int) (w : World) :
    Calls Tryd.prog 31 #[.iface 76 (.agg #[.int .i64 x, .int .i64 2]), .iface 24 (.int .i64 2)] w fun e w' => e = .returned (.bool true) ∧ w.grownBy w' none := by
  have h40 := @run_callFunc_extern Tryd.prog 40 _ ReflectliteType.typeOf Tryd.func40 (by kernel_rfl) (by kernel_rfl) (by kernel_rfl) (by kernel_rfl)
  have h85 := @run_callFunc_extern Tryd.prog 85 _ (ReflectliteType.method (fun t => do Rtype.noPackHeld "Comparable" t; pure (.bool (← typeInfo t).comparable))) Tryd.func85 (by kernel_rfl) (by kernel_rfl) (by kernel_rfl) (by kernel_rfl)
  have tO := As.typeOf24
  have mC := As.mComparable
  have cm := Is.comparable24
  have q1 := Is.eqTypes
  have q2 := Is.eqSame
  have nI := As.noIs76
  have un := As.unwrap76
  have mU := As.mUnwrap
  go_enter Tryd.func31, Tryd.ntmps31
  go_wp2
  refine wp_loop_rounds 2 ?_
  rw [rounds_succ]
  go_wp2
  rw [rounds_succ]
  go_wp2
  go_ret
  exact ⟨rfl, World.grownBy_alloc _ _ _⟩
end Go.Proofs.YtgeonbkoihegnaaDoor
