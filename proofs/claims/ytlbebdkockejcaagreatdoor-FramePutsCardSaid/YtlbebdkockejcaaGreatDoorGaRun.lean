/-
  Merged: RunOps, WalkM, WalkP, WalkQ.
-/
import Derived.Test.YtlbebdkockejcaaGreatDoorGaFar
import Derived.Test.YtlbebdkockejcaaGreatDoorGaStep
import Derived.Lib.Hide
namespace Go.Proofs.YtlbebdkockejcaaGreatDoor
open Go.RowKit
set_option linter.unusedVariables false
set_option linter.unusedSimpArgs false
theorem isAggInt (w : World) : (isAgg 3).run Tryz.prog w = .ok false w := by kernel_rfl
theorem run_eqi {o : Oper} {a : Act} {W : World} {x y : Operand} (ho : o.op = .binOp .eql 3 x y 3) (i j : Int) (hx : a.eval x = .int .i64 i) (hy : a.eval y = .int .i64 j) (b : Bool) (h : decide (i = j) = b) :
    (execOp a.eval o).run Tryz.prog W = .ok (.value (.bool b)) W := by
  subst h
  unfold execOp
  simp only [ho, hx, hy]
  simp [go_sem]
  by_cases hij : i = j <;> simp [hij]
theorem run_nei {o : Oper} {a : Act} {W : World} {x y : Operand} (ho : o.op = .binOp .neq 3 x y 3) (i j : Int) (hx : a.eval x = .int .i64 i) (hy : a.eval y = .int .i64 j) (b : Bool) (h : decide (¬ i = j) = b) :
    (execOp a.eval o).run Tryz.prog W = .ok (.value (.bool b)) W := by
  subst h
  unfold execOp
  simp only [ho, hx, hy]
  simp [go_sem]
  by_cases hij : i = j <;> simp [hij]
theorem run_lti {o : Oper} {a : Act} {W : World} {x y : Operand} (ho : o.op = .binOp .lss 3 x y 3) (i j : Int) (hx : a.eval x = .int .i64 i) (hy : a.eval y = .int .i64 j) (b : Bool) (h : decide (i < j) = b) :
    (execOp a.eval o).run Tryz.prog W = .ok (.value (.bool b)) W := by
  subst h
  unfold execOp
  simp only [ho, hx, hy]
  simp [go_sem]
theorem run_lei {o : Oper} {a : Act} {W : World} {x y : Operand} (ho : o.op = .binOp .leq 3 x y 3) (i j : Int) (hx : a.eval x = .int .i64 i) (hy : a.eval y = .int .i64 j) (b : Bool) (h : decide (i ≤ j) = b) :
    (execOp a.eval o).run Tryz.prog W = .ok (.value (.bool b)) W := by
  subst h
  unfold execOp
  simp only [ho, hx, hy]
  simp [go_sem]
theorem run_gti {o : Oper} {a : Act} {W : World} {x y : Operand} (ho : o.op = .binOp .gtr 3 x y 3) (i j : Int) (hx : a.eval x = .int .i64 i) (hy : a.eval y = .int .i64 j) (b : Bool) (h : decide (i > j) = b) :
    (execOp a.eval o).run Tryz.prog W = .ok (.value (.bool b)) W := by
  subst h
  unfold execOp
  simp only [ho, hx, hy]
  simp [go_sem]
theorem run_gei {o : Oper} {a : Act} {W : World} {x y : Operand} (ho : o.op = .binOp .geq 3 x y 3) (i j : Int) (hx : a.eval x = .int .i64 i) (hy : a.eval y = .int .i64 j) (b : Bool) (h : decide (i ≥ j) = b) :
    (execOp a.eval o).run Tryz.prog W = .ok (.value (.bool b)) W := by
  subst h
  unfold execOp
  simp only [ho, hx, hy]
  simp [go_sem]
theorem run_pred {o : Oper} {a : Act} {W : World} {x y : Operand} (ho : o.op = .binOp .sub 3 x y 3) (l m : Nat) (hx : a.eval x = .int .i64 (l : Int)) (hy : a.eval y = .int .i64 1) (hl : l = m + 1) (hm : l ≤ 1000) :
    (execOp a.eval o).run Tryz.prog W = .ok (.value (.int .i64 (m : Int))) W := by
  unfold execOp
  simp only [ho, hx, hy]
  have h : (IntKind.i64.wrap ((l : Int) - 1)) = (m : Int) := by
    rw [show (l : Int) - 1 = (m : Int) by omega]
    exact IntWalk.i64_in _ (by omega)
  simp [go_sem, h]
theorem run_succ {o : Oper} {a : Act} {W : World} {x y : Operand} (ho : o.op = .binOp .add 3 x y 3) (l : Int) (hx : a.eval x = .int .i64 l) (hy : a.eval y = .int .i64 1) (hm : 1 ≤ l ∧ l ≤ 4) :
    (execOp a.eval o).run Tryz.prog W = .ok (.value (.int .i64 (l + 1))) W := by
  unfold execOp
  simp only [ho, hx, hy]
  have h : (IntKind.i64.wrap (l + 1)) = l + 1 := IntWalk.i64_in _ (by omega)
  simp [go_sem, h]
theorem run_max1 {o : Oper} {a : Act} {W : World} {x y : Operand} (ho : o.op = .call { callee := .builtin .max, args := #[x, y], argTypes := #[3, 3] }) (l : Int) (hx : a.eval x = .int .i64 l) (hy : a.eval y = .int .i64 1) :
    (execOp a.eval o).run Tryz.prog W = .ok (.value (.int .i64 (max l 1))) W := by
  have hm : (#[x, y] : Array Operand).map a.eval = #[.int .i64 l, .int .i64 1] := by simp [hx, hy]
  have hq : (Builtin.max_ #[3, 3] o.type #[.int .i64 l, .int .i64 1]).run Tryz.prog W = .ok (.int .i64 (max l 1)) W := by
    simp [go_sem]
  generalize hA : (#[x, y] : Array Operand) = A at *
  unfold execOp
  simp only [ho]
  simp [go_sem, hq, hm]
theorem run_min4 {o : Oper} {a : Act} {W : World} {x y : Operand} (ho : o.op = .call { callee := .builtin .min, args := #[x, y], argTypes := #[3, 3] }) (l : Int) (hx : a.eval x = .int .i64 l) (hy : a.eval y = .int .i64 4) :
    (execOp a.eval o).run Tryz.prog W = .ok (.value (.int .i64 (min l 4))) W := by
  have hm : (#[x, y] : Array Operand).map a.eval = #[.int .i64 l, .int .i64 4] := by simp [hx, hy]
  have hq : (Builtin.min_ #[3, 3] o.type #[.int .i64 l, .int .i64 4]).run Tryz.prog W = .ok (.int .i64 (min l 4)) W := by
    simp [go_sem]
  generalize hA : (#[x, y] : Array Operand) = A at *
  unfold execOp
  simp only [ho]
  simp [go_sem, hq, hm]
theorem isAggBool (w : World) : (isAgg 4).run Tryz.prog w = .ok false w := by kernel_rfl
theorem run_neb {o : Oper} {a : Act} {W : World} {x y : Operand} (ho : o.op = .binOp .neq 4 x y 4) (b : Bool) (hx : a.eval x = .bool b) (hy : a.eval y = .bool b) :
    (execOp a.eval o).run Tryz.prog W = .ok (.value (.bool false)) W := by
  unfold execOp
  simp only [ho, hx, hy]
  cases b <;> kernel_rfl
theorem isAggStr (w : World) : (isAgg 9).run Tryz.prog w = .ok false w := by kernel_rfl
theorem run_lens {o : Oper} {a : Act} {W : World} {x : Operand} {T E : TypeId} (ho : o.op = .call { callee := .builtin .len, args := #[x], argTypes := #[T] }) (A : Option Addr) (n c : Nat) (hx : a.eval x = .slice A n c) (hT : Tryz.prog.underlying T = some (.slice E)) :
    (execOp a.eval o).run Tryz.prog W = .ok (.value (.int .i64 (n : Int))) W := by
  have hm : (#[x] : Array Operand).map a.eval = #[.slice A n c] := by simp [hx]
  generalize hA : (#[x] : Array Operand) = AA at *
  unfold execOp
  simp only [ho]
  simp [go_sem, hm, hT]
theorem run_indexK {o : Oper} {a : Act} {W : World} {x y : Operand} {S T : TypeId} {k : Nat} (hu : Tryz.prog.underlying S = some (.slice T)) (hc : ∀ W : World, (sizeOf T).run Tryz.prog W = .ok k W) (ho : o.op = .indexAddr S x y) (b oo n c i : Nat) (hx : a.eval x = .slice (some ⟨b, oo, none⟩) n c) (hy : a.eval y = .int .i64 (i : Int)) (hi : i < n) :
    (execOp a.eval o).run Tryz.prog W = .ok (.value (.pointer (some ⟨b, oo + i * k, none⟩))) W := by
  have h1 : (i : Int) < (n : Int) := by omega
  unfold execOp
  simp only [ho, hx, hy]
  simp [go_sem, hu, hc, h1, Addr.add_mid, Result.andThen]
theorem run_ges {o : Oper} {a : Act} {W : World} {x y : Operand} (ho : o.op = .binOp .geq 9 x y 9) (i j : ByteArray) (hx : a.eval x = .string i) (hy : a.eval y = .string j) (b : Bool) (h : (!Op.bytesLess i.toList j.toList) = b) :
    (execOp a.eval o).run Tryz.prog W = .ok (.value (.bool b)) W := by
  unfold execOp
  simp only [ho, hx, hy]
  simp [go_sem, h]
theorem run_lts {o : Oper} {a : Act} {W : World} {x y : Operand} (ho : o.op = .binOp .lss 9 x y 9) (i j : ByteArray) (hx : a.eval x = .string i) (hy : a.eval y = .string j) (b : Bool) (h : Op.bytesLess i.toList j.toList = b) :
    (execOp a.eval o).run Tryz.prog W = .ok (.value (.bool b)) W := by
  unfold execOp
  simp only [ho, hx, hy]
  simp [go_sem, h]
theorem run_nes {o : Oper} {a : Act} {W : World} {x y : Operand} (ho : o.op = .binOp .neq 9 x y 9) (i j : ByteArray) (hx : a.eval x = .string i) (hy : a.eval y = .string j) (b : Bool) (h : decide (¬ i = j) = b) :
    (execOp a.eval o).run Tryz.prog W = .ok (.value (.bool b)) W := by
  have e : (i.toList == j.toList) = decide (i = j) := bytes_eq i j
  unfold execOp
  simp only [ho, hx, hy]
  simp [go_sem, e]
  rw [← h]
  simp
end Go.Proofs.YtlbebdkockejcaaGreatDoor
namespace Go.Proofs.Segs
open Go Go.RowKit
variable {P : Program} {ops : Array Oper} {Ev : World → World → Prop} {Q : Act → World → Prop} {o : Oper} {l : List Oper} {a : Act} {w : World} {ms : List Bool}
structure WM (P : Program) (ops : Array Oper) (Ev : World → World → Prop) (Q : Act → World → Prop) (ms : List Bool) (l : List Oper) (a : Act) (w : World) : Prop where
  out : wpM P ops Ev Q ms l a w
theorem WM.val (d : Option Tmp) (v : Value) (hd : o.dst = d) (hw : Region.wanted o (yielded ops a.tmps) = true)
    (h : ∀ W, Ev w W → (execOp a.eval o).run P W = .ok (.value v) W) (k : WM P ops Ev Q ms l (a.put d v) w) : WM P ops Ev Q (false :: ms) (o :: l) a w := ⟨wpM_val d v hd hw h k.out⟩
theorem WM.not (d : Option Tmp) (hd : o.dst = d) (hw : Region.wanted o (yielded ops a.tmps) = false) (k : WM P ops Ev Q ms l (a.put d undef) w) : WM P ops Ev Q (false :: ms) (o :: l) a w := ⟨wpM_not d hd hw k.out⟩
theorem WM.call (d : Option Tmp) (f : FuncId) (args : Array Value) (v : Value) (hd : o.dst = d) (hw : Region.wanted o (yielded ops a.tmps) = true)
    (h : ∀ W, (execOp a.eval o).run P W = .ok (.enter f args) W) (hc : ∀ W, Ev w W → Calls P f args W fun e w' => e = .returned v ∧ Ev W w')
    (k : WM P ops Ev Q ms l (a.put d v) w) : WM P ops Ev Q (false :: ms) (o :: l) a w := ⟨wpM_call d f args v hd hw h hc k.out⟩
theorem WM.fin (h : ∀ w1, Ev w w1 → Q a w1) : WM P ops Ev Q ms [] a w := ⟨wpM_end h⟩
end Go.Proofs.Segs
namespace Go.Proofs.Segs
open Go Go.RowKit
variable {P : Program} {ops : Array Oper} {md : Region.Mode} {Ev : World → World → Prop} {Q : Act → World → Prop}
def wpP (P : Program) (ops : Array Oper) (Ev : World → World → Prop) (Q : Act → World → Prop) : List (Nat × Bool) → Act → World → Prop
  | [], a, w => ∀ w1, Ev w w1 → Q a w1
  | (i, true) :: l, a, w => ∃ o, ops[i]? = some o ∧ ∀ w1, Ev w w1 → wpList P ops (After Ev w1 (wpP P ops Ev Q l)) [o] a w1
  | (i, false) :: l, a, w => ∃ o, ops[i]? = some o ∧ if Region.wanted o (yielded ops a.tmps) then ∃ v, (∀ w1, Ev w w1 → o.quietAt P a (Ev w1) w1 v) ∧ wpP P ops Ev Q l (a.put o.dst v) w else wpP P ops Ev Q l (a.put o.dst undef) w
def lexP (md : Region.Mode) (ops : Array Oper) : List (Nat × Bool) → Array Bool → Bool
  | [], listed => (Region.ready md ops listed).isEmpty
  | (i, true) :: l, listed => decide (Region.ready md ops listed = [i]) && lexP md ops l (listed.setIfInBounds i true)
  | (i, false) :: l, listed => (Region.ready md ops listed).contains i && Region.free md ops listed i && lexP md ops l (listed.setIfInBounds i true)
theorem wpK_of_wpP (hrf : ∀ w, Ev w w) (ht : ∀ a b c, Ev a b → Ev b c → Ev a c) (hsel : Region.noSelect ops = true) : ∀ (l : List (Nat × Bool)) (listed : Array Bool) (a : Act) (w : World),
    lexP md ops l listed = true → wpP P ops Ev Q l a w → wpK P md ops Ev Q l.length listed a w := by
  intro l
  induction l with
  | nil =>
    intro listed a w hB h
    exact ⟨List.isEmpty_iff.1 hB, h⟩
  | cons x l ih =>
    intro listed a w hB h
    obtain ⟨k, b⟩ := x
    cases b with
    | false =>
      simp only [lexP, Bool.and_eq_true] at hB
      obtain ⟨⟨hr, hf⟩, hB'⟩ := hB
      obtain ⟨o, h0, h'⟩ := h
      by_cases hw : Region.wanted o (yielded ops a.tmps) = true
      · rw [if_pos hw] at h'
        obtain ⟨v, hv, hK⟩ := h'
        exact wpK_first hrf ht h0 (Region.noSelect_spec hsel) l.length listed a w (Region.free_spec h0 hf) (by simpa using hr) (.inl ⟨hw, hv⟩) (ih _ _ _ hB' hK)
      · rw [if_neg hw] at h'
        exact wpK_first hrf ht h0 (Region.noSelect_spec hsel) l.length listed a w (Region.free_spec h0 hf) (by simpa using hr) (.inr ⟨by simpa using hw, rfl⟩) (ih _ _ _ hB' h')
    | true =>
      simp only [lexP, Bool.and_eq_true, decide_eq_true_eq] at hB
      obtain ⟨o, h0, h'⟩ := h
      intro w1 hw1
      refine ⟨fun h1 => (by rw [hB.1] at h1; cases h1), fun i hi => ?_⟩
      rw [hB.1] at hi
      obtain rfl : i = k := by simpa using hi
      exact wpOp_mono (fun a' w' h3 => ⟨h3.1, ih _ a' w' hB.2 h3.2⟩) (wpOp_of_after h0 (h' w1 hw1))
theorem wp_region_perm (Ev : World → World → Prop) (ms : List (Nat × Bool)) {id : Nat} {Q : Exit → Act → World → Prop} {a : Act} {w : World} {l : List Oper} (hrf : ∀ w, Ev w w) (ht : ∀ a b c, Ev a b → Ev b c → Ev a c)
    (hm : P.follows .mixedOrders = true) (hs : Region.noSelect l.toArray = true) (hn : ms.length = l.length) (hB : lexP .any l.toArray ms (Array.replicate l.length false) = true)
    (h : wpP P l.toArray Ev (fun a w => Q .normal a w) ms a w.drew) : (Code.region id l.toArray true).wp P Q a w := by
  refine Go.wp_mono (wp_region_any hm ?_) (fun e a w (k : e = .normal ∧ Q .normal a w) => by rw [k.1]; exact k.2)
  have H := wpK_of_wpP (md := .any) hrf ht hs ms (Array.replicate l.length false) a w.drew hB h
  rw [hn] at H
  have := wpAny_of_wpK (Q' := Q) hrf (fun a w h => h) _ _ _ _ H
  simpa using this
/-- wpP, closed. -/
structure WP (P : Program) (ops : Array Oper) (Ev : World → World → Prop) (Q : Act → World → Prop) (l : List (Nat × Bool)) (a : Act) (w : World) : Prop where
  out : wpP P ops Ev Q l a w
variable {l : List (Nat × Bool)} {a : Act} {w : World} {o : Oper}
theorem WP.fin (h : ∀ w1, Ev w w1 → Q a w1) : WP P ops Ev Q [] a w := ⟨h⟩
theorem WP.val (i : Nat) (ho : ops[i]? = some o) (d : Option Tmp) (v : Value) (hd : o.dst = d) (hw : Region.wanted o (yielded ops a.tmps) = true)
    (h : ∀ W, Ev w W → (execOp a.eval o).run P W = .ok (.value v) W) (k : WP P ops Ev Q l (a.put d v) w) : WP P ops Ev Q ((i, false) :: l) a w := by
  subst hd
  refine ⟨o, ho, ?_⟩
  rw [if_pos hw]
  exact ⟨v, fun w1 h1 => by unfold Oper.quietAt; rw [h w1 h1]; exact ⟨rfl, rfl⟩, k.out⟩
theorem WP.not (i : Nat) (ho : ops[i]? = some o) (d : Option Tmp) (hd : o.dst = d) (hw : Region.wanted o (yielded ops a.tmps) = false) (k : WP P ops Ev Q l (a.put d undef) w) : WP P ops Ev Q ((i, false) :: l) a w := by
  subst hd
  refine ⟨o, ho, ?_⟩
  rw [if_neg (by rw [hw]; exact Bool.false_ne_true)]
  exact k.out
theorem WP.call (i : Nat) (ho : ops[i]? = some o) (d : Option Tmp) (f : FuncId) (args : Array Value) (v : Value) (hd : o.dst = d) (hw : Region.wanted o (yielded ops a.tmps) = true)
    (h : ∀ W, (execOp a.eval o).run P W = .ok (.enter f args) W) (hc : ∀ W, Ev w W → Calls P f args W fun e w' => e = .returned v ∧ Ev W w')
    (k : WP P ops Ev Q l (a.put d v) w) : WP P ops Ev Q ((i, false) :: l) a w := by
  subst hd
  refine ⟨o, ho, ?_⟩
  rw [if_pos hw]
  exact ⟨v, fun w1 h1 => by unfold Oper.quietAt; rw [h w1]; exact ⟨rfl, hc w1 h1⟩, k.out⟩
/-- A call that comes up alone. -/
theorem WP.acall (i : Nat) (ho : ops[i]? = some o) (d : Option Tmp) (f : FuncId) (args : Array Value) (R : World → Ending → World → Prop) (hd : o.dst = d) (hg : o.guard = none)
    (h : ∀ W, (execOp a.eval o).run P W = .ok (.enter f args) W) (hc : ∀ W, Ev w W → Calls P f args W (R W))
    (k : ∀ W, Ev w W → ∀ e w', R W e w' → ∃ v, e = .returned v ∧ Ev W w' ∧ WP P ops Ev Q l (a.put d v) w') : WP P ops Ev Q ((i, true) :: l) a w := by
  subst hd
  refine ⟨o, ho, fun w1 h1 => ?_⟩
  refine wpList_plain hg fun K hK => ?_
  unfold Oper.wp
  rw [h w1]
  show Calls P f args w1 _
  refine (hc w1 h1).mono fun e w' hR => ?_
  obtain ⟨v, rfl, h2, h3⟩ := k w1 h1 e w' hR
  exact hK _ _ ⟨h2, h3.out⟩
/-- What makes a value and, may be, another world, when it comes up alone. -/
theorem WP.aval (i : Nat) (ho : ops[i]? = some o) (d : Option Tmp) (hd : o.dst = d) (hg : o.guard = none) (h : ∀ W, Ev w W → ∃ v W', (execOp a.eval o).run P W = .ok (.value v) W' ∧ Ev W W' ∧ WP P ops Ev Q l (a.put d v) W') : WP P ops Ev Q ((i, true) :: l) a w := by
  subst hd
  refine ⟨o, ho, fun w1 h1 => ?_⟩
  obtain ⟨v, W', h2, h3, h4⟩ := h w1 h1
  refine wpList_plain hg fun K hK => ?_
  unfold Oper.wp
  rw [h2]
  exact hK _ _ ⟨h3, h4.out⟩
/-- A store that comes up alone. -/
theorem WP.askip (i : Nat) (ho : ops[i]? = some o) (hd : o.dst = none) (hg : o.guard = none) (h : ∀ W, Ev w W → ∃ W', (execOp a.eval o).run P W = .ok .skip W' ∧ Ev W W' ∧ WP P ops Ev Q l a W') : WP P ops Ev Q ((i, true) :: l) a w := by
  refine ⟨o, ho, fun w1 h1 => ?_⟩
  obtain ⟨W', h2, h3, h4⟩ := h w1 h1
  refine wpList_plain hg fun K hK => ?_
  unfold Oper.wp
  rw [h2]
  show K (a.put o.dst undef) W'
  rw [hd]
  exact hK _ _ ⟨h3, h4.out⟩
end Go.Proofs.Segs
namespace Go.Proofs.Segs
open Go Go.RowKit
variable {P : Program} {ops : Array Oper} {md : Region.Mode} {Ev : World → World → Prop} {Q : Act → World → Prop}
variable {l : List (Nat × Bool)} {a : Act} {w : World} {o : Oper}
/-- A call that comes up alone, and is wanted. -/
theorem WP.acallG (i : Nat) (ho : ops[i]? = some o) (d : Option Tmp) (f : FuncId) (args : Array Value) (R : World → Ending → World → Prop) (hd : o.dst = d) (hw : Region.wanted o (yielded ops a.tmps) = true)
    (h : ∀ W, (execOp a.eval o).run P W = .ok (.enter f args) W) (hc : ∀ W, Ev w W → Calls P f args W (R W))
    (k : ∀ W, Ev w W → ∀ e w', R W e w' → ∃ v, e = .returned v ∧ Ev W w' ∧ WP P ops Ev Q l (a.put d v) w') : WP P ops Ev Q ((i, true) :: l) a w := by
  subst hd
  refine ⟨o, ho, fun w1 h1 => ?_⟩
  unfold wpList
  rw [if_pos hw]
  left
  unfold Oper.wp
  rw [h w1]
  show Calls P f args w1 _
  refine (hc w1 h1).mono fun e w' hR => ?_
  obtain ⟨v, rfl, h2, h3⟩ := k w1 h1 e w' hR
  exact wpList_nil ⟨h2, h3.out⟩
end Go.Proofs.Segs
