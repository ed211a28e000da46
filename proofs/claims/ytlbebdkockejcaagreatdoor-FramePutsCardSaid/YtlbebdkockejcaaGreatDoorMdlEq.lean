/-
  slices.Equal of entries, of changes (written by makers/mdlequal.py).
-/
import Derived.Test.YtlbebdkockejcaaGreatDoorGaMdB
import Derived.Deep.RegionLaw
import Derived.Laws.StructEq
namespace Go.Proofs.YtlbebdkockejcaaGreatDoor
open Go.RowKit Go.Proofs.Mdl
set_option linter.unusedVariables false
set_option linter.unusedSimpArgs false
theorem tl_iff {a b : ByteArray} : a.toList = b.toList ↔ a = b := by
  rw [Lib.toList_data, Lib.toList_data]
  exact ⟨bytes_ext, fun h => by rw [h]⟩
theorem retB {a b : Bool} (h : a = b) : Ending.returned (.bool a) = Ending.returned (.bool b) := by rw [h]
def arrE (e : Ent) : Array Value := (cellE e).toArray
theorem E_inj {x y : Ent} (h : x.k = y.k ∧ x.v = y.v) : x = y := by
  cases x; cases y
  simp only at h
  simp [h]
theorem run_neE {o : Oper} {a : Act} {W : World} {x y : Operand} (ho : o.op = .binOp .neq 52 x y 52) (s s' : Ent) (hx : a.eval x = .agg (arrE s)) (hy : a.eval y = .agg (arrE s')) (b : Bool) (h : decide (¬ s = s') = b) :
    (execOp a.eval o).run Tryz.prog W = .ok (.value (.bool b)) W := by
  subst h
  unfold execOp
  simp only [ho, hx, hy]
  unfold arrE cellE
  simp [go_sem]
  by_cases e : s = s'
  · subst e; simp
  · by_cases e1 : s.k = s'.k
    · by_cases e2 : s.v = s'.v
      · exact absurd (E_inj ⟨e1, e2⟩) e
      · simp [e1, e2, e, tl_iff]
    · simp [e1, e, tl_iff]
theorem run_ldE {o : Oper} {a : Act} {W : World} (x : Operand) (ho : o.op = .load 52 x) (b off : Nat) (hx : a.eval x = .pointer (some ⟨b, off, none⟩)) (s : Ent) (h : ∀ j v, (cellE s)[j]? = some v → W.cell? ⟨b, off + j, none⟩ = some v) : (execOp a.eval o).run Tryz.prog W = .ok (.value (.agg (arrE s))) W := by
  have hu : ∃ d, Tryz.prog.underlying 52 = some d ∧ d.isRow = true := ⟨_, Tryz.underlying52, rfl⟩
  obtain ⟨d, hu, hd⟩ := hu
  refine Segs.run_mid (ty := 52) (x := x) ho b off hx (cellE s) d ?_ hu hd (by kernel_rfl)
  intro j v hj
  exact h j v hj
def arrC (e : Chg) : Array Value := (cellC e).toArray
theorem C_inj {x y : Chg} (h : x.k = y.k ∧ x.v = y.v ∧ x.gone = y.gone) : x = y := by
  cases x; cases y
  simp only at h
  simp [h]
theorem run_neC {o : Oper} {a : Act} {W : World} {x y : Operand} (ho : o.op = .binOp .neq 54 x y 54) (s s' : Chg) (hx : a.eval x = .agg (arrC s)) (hy : a.eval y = .agg (arrC s')) (b : Bool) (h : decide (¬ s = s') = b) :
    (execOp a.eval o).run Tryz.prog W = .ok (.value (.bool b)) W := by
  subst h
  unfold execOp
  simp only [ho, hx, hy]
  unfold arrC cellC
  simp [go_sem]
  by_cases e : s = s'
  · subst e; simp
  · by_cases e1 : s.k = s'.k
    · by_cases e2 : s.v = s'.v
      · by_cases e3 : s.gone = s'.gone
        · exact absurd (C_inj ⟨e1, e2, e3⟩) e
        · simp [e1, e2, e3, e, tl_iff]
      · simp [e1, e2, e, tl_iff]
    · simp [e1, e, tl_iff]
theorem run_ldC {o : Oper} {a : Act} {W : World} (x : Operand) (ho : o.op = .load 54 x) (b off : Nat) (hx : a.eval x = .pointer (some ⟨b, off, none⟩)) (s : Chg) (h : ∀ j v, (cellC s)[j]? = some v → W.cell? ⟨b, off + j, none⟩ = some v) : (execOp a.eval o).run Tryz.prog W = .ok (.value (.agg (arrC s))) W := by
  have hu : ∃ d, Tryz.prog.underlying 54 = some d ∧ d.isRow = true := ⟨_, Tryz.underlying54, rfl⟩
  obtain ⟨d, hu, hd⟩ := hu
  refine Segs.run_mid (ty := 54) (x := x) ho b off hx (cellC s) d ?_ hu hd (by kernel_rfl)
  intro j v hj
  exact h j v hj
end Go.Proofs.YtlbebdkockejcaaGreatDoor
