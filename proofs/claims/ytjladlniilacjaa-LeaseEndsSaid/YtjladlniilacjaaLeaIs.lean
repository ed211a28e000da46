/-
  errors.Is over a table's errors; number.
-/
import Derived.Test.YtjladlniilacjaaLeaUsed
import Derived.LaidEql
import Derived.Stop.Asserts
import Derived.RowKitTokens
namespace Go.Proofs.Ytjladlniilacjaa
open Go.RowKit Go.Proofs.Lea Go.Extern.Stop Go.Stop Go.Extern
set_option linter.unusedVariables false
set_option linter.unusedSimpArgs false
/-- A table's error. -/
abbrev fltL (id e : Int) : Value := .iface 138 (.agg #[.int .i64 id, .iface 27 (.int .i64 e)])
/-- What errors.Is asks of its target's type. -/
theorem Is.handle : ∃ h : Value, (∀ (v : Value) (w : World), (ReflectliteType.typeOf #[.iface 27 v]).run Try.prog w = .ok (.iface 173 (.agg #[h])) w) ∧
    (∀ w : World, ((ReflectliteType.method fun t => do Rtype.noPackHeld "Comparable" t; (fun a => Value.bool a.comparable) <$> typeInfo t) #[.agg #[h]]).run Try.prog w = .ok (.bool true) w) :=
  ⟨typeHandle Try.prog 27, fun v w => by kernel_rfl, fun w => by kernel_rfl⟩
theorem Is.mComparable (n : Nat) (h : Value) (w : World) : (Go.method (n + 1) 173 (.agg #[h]) "Comparable").run Try.prog w = .ok (137, .agg #[h]) w := by kernel_rfl
theorem Is.mUnwrap (n : Nat) (h : Value) (w : World) : (Go.method (n + 1) 138 h "Unwrap").run Try.prog w = .ok (133, h) w := by kernel_rfl
theorem Is.noIsF (v : Value) (xT : TypeId) (w : World) : (Instr.typeAssert (.iface 138 v) xT 175 true).run Try.prog w = .ok (.tuple #[.nilIface, .bool false]) w := run_typeAssert_lacksB Try.underlying175 (by kernel_rfl) (by kernel_rfl) v xT w
theorem Is.noIsE (v : Value) (xT : TypeId) (w : World) : (Instr.typeAssert (.iface 27 v) xT 175 true).run Try.prog w = .ok (.tuple #[.nilIface, .bool false]) w := run_typeAssert_lacksB Try.underlying175 (by kernel_rfl) (by kernel_rfl) v xT w
theorem Is.unwrapF (v : Value) (xT : TypeId) (w : World) : (Instr.typeAssert (.iface 138 v) xT 178 true).run Try.prog w = .ok (.tuple #[.iface 138 v, .bool true]) w := run_typeAssert_hasB Try.underlying178 (by kernel_rfl) v xT w
theorem Is.unwrapE (v : Value) (xT : TypeId) (w : World) : (Instr.typeAssert (.iface 27 v) xT 178 true).run Try.prog w = .ok (.tuple #[.nilIface, .bool false]) w := run_typeAssert_lacksB Try.underlying178 (by kernel_rfl) (by kernel_rfl) v xT w
theorem Is.unwrapsE (v : Value) (xT : TypeId) (w : World) : (Instr.typeAssert (.iface 27 v) xT 180 true).run Try.prog w = .ok (.tuple #[.nilIface, .bool false]) w := run_typeAssert_lacksB Try.underlying180 (by kernel_rfl) (by kernel_rfl) v xT w
theorem is_nil (e : Int) (w : World) :
    Calls Try.prog 68 #[.nilIface, .iface 27 (.int .i64 e)] w fun r w' => r = .returned (.bool false) ∧ w = w' := by
  have hn := run_eql_iface_nil_left (P := Try.prog) w 27 (.int .i64 e) Try.underlying98
  go_enter Try.func68, Try.ntmps68
  go_wp2_with fail
  go_ret
  exact ⟨rfl, rfl⟩
set_option maxRecDepth 100000 in
set_option maxHeartbeats 2000000 in
theorem is_any (id : Int) (e g : Int) (he : (e = 5 ∧ g = 5) ∨ (e = 5 ∧ g = 6) ∨ (e = 6 ∧ g = 5) ∨ (e = 6 ∧ g = 6)) (w : World) :
    Calls Try.prog 68 #[fltL id e, .iface 27 (.int .i64 g)] w fun r w' => r = .returned (.bool (decide (e = g))) ∧ Below w.heap.size w w' := by
  have h8 := @run_callFunc_extern Try.prog 79 _ Extern.ReflectliteType.typeOf Try.func79 (by kernel_rfl) (by kernel_rfl) (by kernel_rfl) (by kernel_rfl)
  have h32 := @run_callFunc_extern Try.prog 137 _ (Extern.ReflectliteType.method fun t => do Rtype.noPackHeld "Comparable" t; pure (.bool (← typeInfo t).comparable)) Try.func137 (by kernel_rfl) (by kernel_rfl) (by kernel_rfl) (by kernel_rfl)
  obtain ⟨hdl, tT, cT⟩ := Is.handle
  have mR := Is.mComparable
  have nF := Is.noIsF
  have nE := Is.noIsE
  have uF := Is.unwrapF
  have uE := Is.unwrapE
  have vE := Is.unwrapsE
  have mU := Is.mUnwrap
  have B1 := Lib.hid ((Below.refl w.heap.size w).alloc (Nat.le_refl _) (.cells #[.int .i64 id, .iface 27 (.int .i64 e)] 138))
  have hty := fun W => run_eql_iface_types (P := Try.prog) 138 27 (.agg #[.int .i64 id, .iface 27 (.int .i64 e)]) (.int .i64 g) Try.underlying98 (by decide) W
  unfold fltL
  rcases he with ⟨rfl, rfl⟩ | ⟨rfl, rfl⟩ | ⟨rfl, rfl⟩ | ⟨rfl, rfl⟩
  · have heq : ∀ W, (binOp BinOp.eql 98 (.iface 27 (.int .i64 5)) (.iface 27 (.int .i64 5))).run Try.prog W = .ok (.bool true) W := fun W => by kernel_rfl
    go_enter Try.func68, Try.ntmps68
    go_wp2_with go_in
    refine wp_loop_rounds 2 ?_
    rw [rounds_succ]
    go_wp2_with go_in
    rw [rounds_succ]
    go_wp2_with go_in
    go_ret
    exact ⟨rfl, B1.out⟩
  · have heq : ∀ W, (binOp BinOp.eql 98 (.iface 27 (.int .i64 5)) (.iface 27 (.int .i64 6))).run Try.prog W = .ok (.bool false) W := fun W => by kernel_rfl
    go_enter Try.func68, Try.ntmps68
    go_wp2_with go_in
    refine wp_loop_rounds 2 ?_
    rw [rounds_succ]
    go_wp2_with go_in
    rw [rounds_succ]
    go_wp2_with go_in
    go_ret
    exact ⟨rfl, B1.out⟩
  · have heq : ∀ W, (binOp BinOp.eql 98 (.iface 27 (.int .i64 6)) (.iface 27 (.int .i64 5))).run Try.prog W = .ok (.bool false) W := fun W => by kernel_rfl
    go_enter Try.func68, Try.ntmps68
    go_wp2_with go_in
    refine wp_loop_rounds 2 ?_
    rw [rounds_succ]
    go_wp2_with go_in
    rw [rounds_succ]
    go_wp2_with go_in
    go_ret
    exact ⟨rfl, B1.out⟩
  · have heq : ∀ W, (binOp BinOp.eql 98 (.iface 27 (.int .i64 6)) (.iface 27 (.int .i64 6))).run Try.prog W = .ok (.bool true) W := fun W => by kernel_rfl
    go_enter Try.func68, Try.ntmps68
    go_wp2_with go_in
    refine wp_loop_rounds 2 ?_
    rw [rounds_succ]
    go_wp2_with go_in
    rw [rounds_succ]
    go_wp2_with go_in
    go_ret
    exact ⟨rfl, B1.out⟩
end Go.Proofs.Ytjladlniilacjaa
