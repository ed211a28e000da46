/-
  A region that draws its order, walked in an order of one's own choice: a call that comes up alone, guarded or not. No program is spoken of here.
-/
import Derived.Test.YtdahhnefcageeaaWalkP
namespace Go.Proofs.Segs
open Go Go.RowKit
variable {P : Program} {ops : Array Oper} {md : Region.Mode} {Ev : World → World → Prop} {Q : Act → World → Prop}
variable {l : List (Nat × Bool)} {a : Act} {w : World} {o : Oper}
/-- A call that comes up alone, and is wanted. -/
theorem WP.acallG (i : Nat) (ho : ops[i]? = some o) (d : Option Tmp) (f : FuncId) (args : Array Value) (R : World → Ending → World → Prop) (hd : o.dst = d) (hw : Region.wanted o (yielded ops a.tmps) = true)
    (h : ∀ W, (execOp a.eval o).run P W = .ok (.enter f args) W) (hc : ∀ W, Ev w W → Calls P f args W (R W))
    (k : ∀ W, Ev w W → ∀ e w', R W e w' → ∃ v, e = .returned v ∧ Ev W w' ∧ WP P ops Ev Q l (a.put d v) w') : WP P ops Ev Q ((i, true) :: l) a w := by
  subst hd
  refine ⟨o, ho, fun w1 h1 => ?_⟩
  unfold wpList
  rw [if_pos hw]
  left
  unfold Oper.wp
  rw [h w1]
  show Calls P f args w1 _
  refine (hc w1 h1).mono fun e w' hR => ?_
  obtain ⟨v, rfl, h2, h3⟩ := k w1 h1 e w' hR
  exact wpList_nil ⟨h2, h3.out⟩
end Go.Proofs.Segs
