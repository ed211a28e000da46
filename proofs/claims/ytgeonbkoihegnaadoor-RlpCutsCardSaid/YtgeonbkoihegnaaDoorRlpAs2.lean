import Derived.Test.YtgeonbkoihegnaaDoorRlpAs
import Derived.Maps.AppendAt
namespace Go.Proofs.YtgeonbkoihegnaaDoor
open Go.RowKit Go.Extern.Stop Go.Stop Go.Extern
set_option linter.unusedVariables false
set_option linter.unusedSimpArgs false
theorem As.size70 (w : World) : (sizeOf 70).run Tryd.prog w = .ok 1 w := by kernel_rfl
theorem As.size24 (w : World) : (sizeOf 24).run Tryd.prog w = .ok 1 w := by kernel_rfl
theorem As.size76 (w : World) : (sizeOf 76).run Tryd.prog w = .ok 2 w := by kernel_rfl
theorem As.isAgg76 (w : World) : (isAgg 76).run Tryd.prog w = .ok true w := by kernel_rfl
theorem As.isAgg24 (w : World) : (isAgg 24).run Tryd.prog w = .ok false w := by kernel_rfl
/-- (Value).Set: the interface variable at 'ta' gets the fault that the Value's own variable holds. -/
theorem As.set70 (ta : Addr) (b : Nat) (x y : Int) (old : Value) (W : World) (hb : W.cell? ⟨b, 0, none⟩ = some (.int .i64 x)) (hb1 : W.cell? ⟨b, 1, none⟩ = some (.int .i64 y)) (ht : W.cell? ta = some old) (hf : W.frozen? ta = false) :
    (ReflectliteValue.set #[rv 70 ta 404, rv 76 ⟨b, 0, none⟩ 153]).run Tryd.prog W
      = .ok (.tuple #[]) (W.setCell ta (.iface 76 (.agg #[.int .i64 x, .int .i64 y]))) := by
  have hl : (loadCells ⟨b, 0, none⟩ 2).run Tryd.prog W = .ok #[.int .i64 x, .int .i64 y] W := by
    have := run_loadCells_list (P := Tryd.prog) W ⟨b, 0, none⟩ [.int .i64 x, .int .i64 y] (fun j v hj => by
      match j with
      | 0 => simp at hj; subst hj; simpa [Addr.add] using hb
      | 1 => simp at hj; subst hj; simpa [Addr.add] using hb1
      | j + 2 => simp at hj)
    simpa using this
  rw [As.rls]
  simp only [Sem.run_bind, As.partsE70, As.parts76, Result.andThen]
  simp [ReflectliteValue.flagAddr, loadVar, As.isAgg76, As.size76, hl, Result.andThen, As.direct76, As.impl76, As.kindOf76, storeVar, Value.cells, storeCells, Addr.add, As.size70]
  rw [run_store Tryd.prog W ta _ _ (by rfl)]
  simp [ht, hf]
theorem As.set24 (ta : Addr) (b : Nat) (n : Int) (old : Value) (W : World) (hb : W.cell? ⟨b, 0, none⟩ = some (.int .i64 n)) (ht : W.cell? ta = some old) (hf : W.frozen? ta = false) :
    (ReflectliteValue.set #[rv 24 ta 386, rv 24 ⟨b, 0, none⟩ 130]).run Tryd.prog W
      = .ok (.tuple #[]) (W.setCell ta (.int .i64 n)) := by
  rw [As.rls]
  simp only [Sem.run_bind, As.partsE24, As.parts24, Result.andThen]
  simp [ReflectliteValue.flagAddr, loadVar, As.isAgg24, hb, Result.andThen, As.direct24, storeVar, Value.cells, storeCells, Addr.add, As.size24]
  rw [run_store Tryd.prog W ta _ _ (by rfl)]
  simp [ht, hf]

end Go.Proofs.YtgeonbkoihegnaaDoor
