/-
  What operations on numbers do, one by one.
-/
import Derived.Test.YtjladlniilacjaaGaStep
namespace Go.Proofs.Ytjladlniilacjaa
open Go.RowKit
set_option linter.unusedVariables false
set_option linter.unusedSimpArgs false
theorem isAggInt (w : World) : (isAgg 3).run Try.prog w = .ok false w := by kernel_rfl
theorem run_eqi {o : Oper} {a : Act} {W : World} {x y : Operand} (ho : o.op = .binOp .eql 3 x y 3) (i j : Int) (hx : a.eval x = .int .i64 i) (hy : a.eval y = .int .i64 j) (b : Bool) (h : decide (i = j) = b) :
    (execOp a.eval o).run Try.prog W = .ok (.value (.bool b)) W := by
  subst h
  unfold execOp
  simp only [ho, hx, hy]
  simp [go_sem]
  by_cases hij : i = j <;> simp [hij]
theorem run_nei {o : Oper} {a : Act} {W : World} {x y : Operand} (ho : o.op = .binOp .neq 3 x y 3) (i j : Int) (hx : a.eval x = .int .i64 i) (hy : a.eval y = .int .i64 j) (b : Bool) (h : decide (¬ i = j) = b) :
    (execOp a.eval o).run Try.prog W = .ok (.value (.bool b)) W := by
  subst h
  unfold execOp
  simp only [ho, hx, hy]
  simp [go_sem]
  by_cases hij : i = j <;> simp [hij]
theorem run_lti {o : Oper} {a : Act} {W : World} {x y : Operand} (ho : o.op = .binOp .lss 3 x y 3) (i j : Int) (hx : a.eval x = .int .i64 i) (hy : a.eval y = .int .i64 j) (b : Bool) (h : decide (i < j) = b) :
    (execOp a.eval o).run Try.prog W = .ok (.value (.bool b)) W := by
  subst h
  unfold execOp
  simp only [ho, hx, hy]
  simp [go_sem]
theorem run_lei {o : Oper} {a : Act} {W : World} {x y : Operand} (ho : o.op = .binOp .leq 3 x y 3) (i j : Int) (hx : a.eval x = .int .i64 i) (hy : a.eval y = .int .i64 j) (b : Bool) (h : decide (i ≤ j) = b) :
    (execOp a.eval o).run Try.prog W = .ok (.value (.bool b)) W := by
  subst h
  unfold execOp
  simp only [ho, hx, hy]
  simp [go_sem]
theorem run_gti {o : Oper} {a : Act} {W : World} {x y : Operand} (ho : o.op = .binOp .gtr 3 x y 3) (i j : Int) (hx : a.eval x = .int .i64 i) (hy : a.eval y = .int .i64 j) (b : Bool) (h : decide (i > j) = b) :
    (execOp a.eval o).run Try.prog W = .ok (.value (.bool b)) W := by
  subst h
  unfold execOp
  simp only [ho, hx, hy]
  simp [go_sem]
theorem run_gei {o : Oper} {a : Act} {W : World} {x y : Operand} (ho : o.op = .binOp .geq 3 x y 3) (i j : Int) (hx : a.eval x = .int .i64 i) (hy : a.eval y = .int .i64 j) (b : Bool) (h : decide (i ≥ j) = b) :
    (execOp a.eval o).run Try.prog W = .ok (.value (.bool b)) W := by
  subst h
  unfold execOp
  simp only [ho, hx, hy]
  simp [go_sem]
end Go.Proofs.Ytjladlniilacjaa
