/-
  Operations of a region, one by one: numbers, texts, addresses.
-/
import Derived.Test.YtdahhnefcageeaaGaFar
import Derived.Test.YtdahhnefcageeaaGaStep
import Derived.Lib.Hide
namespace Go.Proofs.Ytdahhnefcageeaa
open Go.RowKit
set_option linter.unusedVariables false
set_option linter.unusedSimpArgs false
theorem isAggInt (w : World) : (isAgg 3).run Try.prog w = .ok false w := by kernel_rfl
theorem run_eqi {o : Oper} {a : Act} {W : World} {x y : Operand} (ho : o.op = .binOp .eql 3 x y 3) (i j : Int) (hx : a.eval x = .int .i64 i) (hy : a.eval y = .int .i64 j) (b : Bool) (h : decide (i = j) = b) :
    (execOp a.eval o).run Try.prog W = .ok (.value (.bool b)) W := by
  subst h
  unfold execOp
  simp only [ho, hx, hy]
  simp [go_sem]
  by_cases hij : i = j <;> simp [hij]
theorem run_nei {o : Oper} {a : Act} {W : World} {x y : Operand} (ho : o.op = .binOp .neq 3 x y 3) (i j : Int) (hx : a.eval x = .int .i64 i) (hy : a.eval y = .int .i64 j) (b : Bool) (h : decide (¬ i = j) = b) :
    (execOp a.eval o).run Try.prog W = .ok (.value (.bool b)) W := by
  subst h
  unfold execOp
  simp only [ho, hx, hy]
  simp [go_sem]
  by_cases hij : i = j <;> simp [hij]
theorem run_lti {o : Oper} {a : Act} {W : World} {x y : Operand} (ho : o.op = .binOp .lss 3 x y 3) (i j : Int) (hx : a.eval x = .int .i64 i) (hy : a.eval y = .int .i64 j) (b : Bool) (h : decide (i < j) = b) :
    (execOp a.eval o).run Try.prog W = .ok (.value (.bool b)) W := by
  subst h
  unfold execOp
  simp only [ho, hx, hy]
  simp [go_sem]
theorem run_lei {o : Oper} {a : Act} {W : World} {x y : Operand} (ho : o.op = .binOp .leq 3 x y 3) (i j : Int) (hx : a.eval x = .int .i64 i) (hy : a.eval y = .int .i64 j) (b : Bool) (h : decide (i ≤ j) = b) :
    (execOp a.eval o).run Try.prog W = .ok (.value (.bool b)) W := by
  subst h
  unfold execOp
  simp only [ho, hx, hy]
  simp [go_sem]
theorem run_gti {o : Oper} {a : Act} {W : World} {x y : Operand} (ho : o.op = .binOp .gtr 3 x y 3) (i j : Int) (hx : a.eval x = .int .i64 i) (hy : a.eval y = .int .i64 j) (b : Bool) (h : decide (i > j) = b) :
    (execOp a.eval o).run Try.prog W = .ok (.value (.bool b)) W := by
  subst h
  unfold execOp
  simp only [ho, hx, hy]
  simp [go_sem]
theorem run_gei {o : Oper} {a : Act} {W : World} {x y : Operand} (ho : o.op = .binOp .geq 3 x y 3) (i j : Int) (hx : a.eval x = .int .i64 i) (hy : a.eval y = .int .i64 j) (b : Bool) (h : decide (i ≥ j) = b) :
    (execOp a.eval o).run Try.prog W = .ok (.value (.bool b)) W := by
  subst h
  unfold execOp
  simp only [ho, hx, hy]
  simp [go_sem]
theorem run_pred {o : Oper} {a : Act} {W : World} {x y : Operand} (ho : o.op = .binOp .sub 3 x y 3) (l m : Nat) (hx : a.eval x = .int .i64 (l : Int)) (hy : a.eval y = .int .i64 1) (hl : l = m + 1) (hm : l ≤ 1000) :
    (execOp a.eval o).run Try.prog W = .ok (.value (.int .i64 (m : Int))) W := by
  unfold execOp
  simp only [ho, hx, hy]
  have h : (IntKind.i64.wrap ((l : Int) - 1)) = (m : Int) := by
    rw [show (l : Int) - 1 = (m : Int) by omega]
    exact IntWalk.i64_in _ (by omega)
  simp [go_sem, h]
theorem run_succ {o : Oper} {a : Act} {W : World} {x y : Operand} (ho : o.op = .binOp .add 3 x y 3) (l : Int) (hx : a.eval x = .int .i64 l) (hy : a.eval y = .int .i64 1) (hm : 1 ≤ l ∧ l ≤ 4) :
    (execOp a.eval o).run Try.prog W = .ok (.value (.int .i64 (l + 1))) W := by
  unfold execOp
  simp only [ho, hx, hy]
  have h : (IntKind.i64.wrap (l + 1)) = l + 1 := IntWalk.i64_in _ (by omega)
  simp [go_sem, h]
theorem run_max1 {o : Oper} {a : Act} {W : World} {x y : Operand} (ho : o.op = .call { callee := .builtin .max, args := #[x, y], argTypes := #[3, 3] }) (l : Int) (hx : a.eval x = .int .i64 l) (hy : a.eval y = .int .i64 1) :
    (execOp a.eval o).run Try.prog W = .ok (.value (.int .i64 (max l 1))) W := by
  have hm : (#[x, y] : Array Operand).map a.eval = #[.int .i64 l, .int .i64 1] := by simp [hx, hy]
  have hq : (Builtin.max_ #[3, 3] o.type #[.int .i64 l, .int .i64 1]).run Try.prog W = .ok (.int .i64 (max l 1)) W := by
    simp [go_sem]
  generalize hA : (#[x, y] : Array Operand) = A at *
  unfold execOp
  simp only [ho]
  simp [go_sem, hq, hm]
theorem run_min4 {o : Oper} {a : Act} {W : World} {x y : Operand} (ho : o.op = .call { callee := .builtin .min, args := #[x, y], argTypes := #[3, 3] }) (l : Int) (hx : a.eval x = .int .i64 l) (hy : a.eval y = .int .i64 4) :
    (execOp a.eval o).run Try.prog W = .ok (.value (.int .i64 (min l 4))) W := by
  have hm : (#[x, y] : Array Operand).map a.eval = #[.int .i64 l, .int .i64 4] := by simp [hx, hy]
  have hq : (Builtin.min_ #[3, 3] o.type #[.int .i64 l, .int .i64 4]).run Try.prog W = .ok (.int .i64 (min l 4)) W := by
    simp [go_sem]
  generalize hA : (#[x, y] : Array Operand) = A at *
  unfold execOp
  simp only [ho]
  simp [go_sem, hq, hm]
theorem isAggBool (w : World) : (isAgg 4).run Try.prog w = .ok false w := by kernel_rfl
theorem run_neb {o : Oper} {a : Act} {W : World} {x y : Operand} (ho : o.op = .binOp .neq 4 x y 4) (b : Bool) (hx : a.eval x = .bool b) (hy : a.eval y = .bool b) :
    (execOp a.eval o).run Try.prog W = .ok (.value (.bool false)) W := by
  unfold execOp
  simp only [ho, hx, hy]
  cases b <;> kernel_rfl
theorem isAggStr (w : World) : (isAgg 9).run Try.prog w = .ok false w := by kernel_rfl
theorem run_lens {o : Oper} {a : Act} {W : World} {x : Operand} {T E : TypeId} (ho : o.op = .call { callee := .builtin .len, args := #[x], argTypes := #[T] }) (A : Option Addr) (n c : Nat) (hx : a.eval x = .slice A n c) (hT : Try.prog.underlying T = some (.slice E)) :
    (execOp a.eval o).run Try.prog W = .ok (.value (.int .i64 (n : Int))) W := by
  have hm : (#[x] : Array Operand).map a.eval = #[.slice A n c] := by simp [hx]
  generalize hA : (#[x] : Array Operand) = AA at *
  unfold execOp
  simp only [ho]
  simp [go_sem, hm, hT]
theorem run_indexK {o : Oper} {a : Act} {W : World} {x y : Operand} {S T : TypeId} {k : Nat} (hu : Try.prog.underlying S = some (.slice T)) (hc : ∀ W : World, (sizeOf T).run Try.prog W = .ok k W) (ho : o.op = .indexAddr S x y) (b oo n c i : Nat) (hx : a.eval x = .slice (some ⟨b, oo, none⟩) n c) (hy : a.eval y = .int .i64 (i : Int)) (hi : i < n) :
    (execOp a.eval o).run Try.prog W = .ok (.value (.pointer (some ⟨b, oo + i * k, none⟩))) W := by
  have h1 : (i : Int) < (n : Int) := by omega
  unfold execOp
  simp only [ho, hx, hy]
  simp [go_sem, hu, hc, h1, Addr.add_mid, Result.andThen]
theorem run_ges {o : Oper} {a : Act} {W : World} {x y : Operand} (ho : o.op = .binOp .geq 9 x y 9) (i j : ByteArray) (hx : a.eval x = .string i) (hy : a.eval y = .string j) (b : Bool) (h : (!Op.bytesLess i.toList j.toList) = b) :
    (execOp a.eval o).run Try.prog W = .ok (.value (.bool b)) W := by
  unfold execOp
  simp only [ho, hx, hy]
  simp [go_sem, h]
theorem run_lts {o : Oper} {a : Act} {W : World} {x y : Operand} (ho : o.op = .binOp .lss 9 x y 9) (i j : ByteArray) (hx : a.eval x = .string i) (hy : a.eval y = .string j) (b : Bool) (h : Op.bytesLess i.toList j.toList = b) :
    (execOp a.eval o).run Try.prog W = .ok (.value (.bool b)) W := by
  unfold execOp
  simp only [ho, hx, hy]
  simp [go_sem, h]
theorem run_nes {o : Oper} {a : Act} {W : World} {x y : Operand} (ho : o.op = .binOp .neq 9 x y 9) (i j : ByteArray) (hx : a.eval x = .string i) (hy : a.eval y = .string j) (b : Bool) (h : decide (¬ i = j) = b) :
    (execOp a.eval o).run Try.prog W = .ok (.value (.bool b)) W := by
  have e : (i.toList == j.toList) = decide (i = j) := bytes_eq i j
  unfold execOp
  simp only [ho, hx, hy]
  simp [go_sem, e]
  rw [← h]
  simp
end Go.Proofs.Ytdahhnefcageeaa
