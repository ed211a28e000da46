/-
  A region that draws its order, walked operation by operation, closed as WL is. No program is spoken of here.
-/
import Derived.Test.YtdahhnefcageeaaGaStep
namespace Go.Proofs.Segs
open Go Go.RowKit
variable {P : Program} {ops : Array Oper} {Ev : World → World → Prop} {Q : Act → World → Prop} {o : Oper} {l : List Oper} {a : Act} {w : World} {ms : List Bool}
structure WM (P : Program) (ops : Array Oper) (Ev : World → World → Prop) (Q : Act → World → Prop) (ms : List Bool) (l : List Oper) (a : Act) (w : World) : Prop where
  out : wpM P ops Ev Q ms l a w
theorem WM.val (d : Option Tmp) (v : Value) (hd : o.dst = d) (hw : Region.wanted o (yielded ops a.tmps) = true)
    (h : ∀ W, Ev w W → (execOp a.eval o).run P W = .ok (.value v) W) (k : WM P ops Ev Q ms l (a.put d v) w) : WM P ops Ev Q (false :: ms) (o :: l) a w := ⟨wpM_val d v hd hw h k.out⟩
theorem WM.not (d : Option Tmp) (hd : o.dst = d) (hw : Region.wanted o (yielded ops a.tmps) = false) (k : WM P ops Ev Q ms l (a.put d undef) w) : WM P ops Ev Q (false :: ms) (o :: l) a w := ⟨wpM_not d hd hw k.out⟩
theorem WM.call (d : Option Tmp) (f : FuncId) (args : Array Value) (v : Value) (hd : o.dst = d) (hw : Region.wanted o (yielded ops a.tmps) = true)
    (h : ∀ W, (execOp a.eval o).run P W = .ok (.enter f args) W) (hc : ∀ W, Ev w W → Calls P f args W fun e w' => e = .returned v ∧ Ev W w')
    (k : WM P ops Ev Q ms l (a.put d v) w) : WM P ops Ev Q (false :: ms) (o :: l) a w := ⟨wpM_call d f args v hd hw h hc k.out⟩
theorem WM.fin (h : ∀ w1, Ev w w1 → Q a w1) : WM P ops Ev Q ms [] a w := ⟨wpM_end h⟩
end Go.Proofs.Segs
