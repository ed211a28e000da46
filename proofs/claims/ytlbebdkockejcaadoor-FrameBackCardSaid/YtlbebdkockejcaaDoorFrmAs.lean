/-
  Package frame: errors.As of what a reader keeps.
-/
import Derived.Test.YtlbebdkockejcaaDoorGaAs
namespace Go.Proofs.YtlbebdkockejcaaDoor
open Go.RowKit Go.Extern.Stop Go.Stop Go.Extern
set_option linter.unusedVariables false
set_option linter.unusedSimpArgs false
theorem AsF.mUnwrap (h : Value) (w : World) : (Go.method 220 121 h "Unwrap").run Tryd.prog w = .ok (105, h) w := by kernel_rfl
theorem AsF.typeOfF (v : Value) (w : World) : (ReflectliteType.typeOf #[.iface 121 v]).run Tryd.prog w = .ok (rt 121) w := by kernel_rfl
theorem AsF.assignF_24 (w : World) : (ReflectliteType.relation "AssignableTo" ReflectliteType.assignableTo #[.agg #[hd 121], rt 24]).run Tryd.prog w = .ok (.bool false) w := by kernel_rfl
theorem AsF.noAsF (v : Value) (xT : TypeId) (w : World) : (Instr.typeAssert (.iface 121 v) xT 155 true).run Tryd.prog w = .ok (.tuple #[.nilIface, .bool false]) w := run_typeAssert_lacksB Tryd.underlying155 (by kernel_rfl) (by kernel_rfl) v xT w
theorem AsF.noIsF (v : Value) (xT : TypeId) (w : World) : (Instr.typeAssert (.iface 121 v) xT 174 true).run Tryd.prog w = .ok (.tuple #[.nilIface, .bool false]) w := run_typeAssert_lacksB Tryd.underlying174 (by kernel_rfl) (by kernel_rfl) v xT w
theorem AsF.unwrapF (v : Value) (xT : TypeId) (w : World) : (Instr.typeAssert (.iface 121 v) xT 158 true).run Tryd.prog w = .ok (.tuple #[.iface 121 v, .bool true]) w := run_typeAssert_hasB Tryd.underlying158 (by kernel_rfl) v xT w
set_option maxRecDepth 100000 in
set_option maxHeartbeats 4000000 in
/-- errors.As: a fault, asked what. -/
theorem as_frame_number (x : ByteArray) (y : Int) (b : Nat) (old : Value) (w : World) (hg : w.cell? ⟨0, 0, none⟩ = some (rt 90)) (ht : w.cell? ⟨b, 0, none⟩ = some old) (hf : w.frozen? ⟨b, 0, none⟩ = false) :
    Calls Tryd.prog 47 #[.iface 121 (.agg #[.string x, .int .i64 y]), .iface 94 (.pointer (some ⟨b, 0, none⟩))] w fun e w' => e = .returned (.bool true) ∧ ∃ W, w.grownBy W none ∧ w' = W.setCell ⟨b, 0, none⟩ (.int .i64 y) := by
  have hbl : b < w.heap.size := World.block_lt_of_cell? w ⟨b, 0, none⟩ ht
  have hg2 : ((w.alloc (.cells #[.pointer (some ⟨b, 0, none⟩)] 94)).alloc (.cells #[hd 94, .pointer (some ⟨w.heap.size, 0, none⟩), .int .u64 150] 125)).cell? ⟨0, 0, none⟩ = some (rt 90) := by
    have this : 0 < w.heap.size := World.block_lt_of_cell? w ⟨0, 0, none⟩ hg
    rw [World.cell?_alloc_lt _ _ ⟨0, 0, none⟩ (by simp <;> omega), World.cell?_alloc_lt _ _ ⟨0, 0, none⟩ this]
    exact hg
  have h47 := @run_callFunc_extern Tryd.prog 65 _ (fun args => ReflectliteValue.unpack (args.getD 0 (.tuple #[]))) Tryd.func65 (by kernel_rfl) (by kernel_rfl) (by kernel_rfl) (by kernel_rfl)
  have h48 := @run_callFunc_extern Tryd.prog 66 _ (ReflectliteValue.methodAny (ReflectliteValue.valueError "reflectlite.Value.Type" 0) (fun t _ _ _ => ReflectliteType.toType t)) Tryd.func66 (by kernel_rfl) (by kernel_rfl) (by kernel_rfl) (by kernel_rfl)
  have h49 := @run_callFunc_extern Tryd.prog 67 _ (ReflectliteValue.method (ReflectliteValue.valueError "reflectlite.Value.IsNil" 0) ReflectliteValue.isNil) Tryd.func67 (by kernel_rfl) (by kernel_rfl) (by kernel_rfl) (by kernel_rfl)
  have h72 := @run_callFunc_extern Tryd.prog 99 _ (ReflectliteType.abiMethod fun t => do pure (.int .u8 (← Rtype.kind t))) Tryd.func99 (by kernel_rfl) (by kernel_rfl) (by kernel_rfl) (by kernel_rfl)
  have h86 := @run_callFunc_extern Tryd.prog 112 _ (ReflectliteType.method ReflectliteType.elem) Tryd.func112 (by kernel_rfl) (by kernel_rfl) (by kernel_rfl) (by kernel_rfl)
  have h87 := @run_callFunc_extern Tryd.prog 113 _ (ReflectliteType.relation "Implements" ReflectliteType.implements_) Tryd.func113 (by kernel_rfl) (by kernel_rfl) (by kernel_rfl) (by kernel_rfl)
  have h40 := @run_callFunc_extern Tryd.prog 77 _ ReflectliteType.typeOf Tryd.func77 (by kernel_rfl) (by kernel_rfl) (by kernel_rfl) (by kernel_rfl)
  have h84 := @run_callFunc_extern Tryd.prog 110 _ (ReflectliteType.relation "AssignableTo" ReflectliteType.assignableTo) Tryd.func110 (by kernel_rfl) (by kernel_rfl) (by kernel_rfl) (by kernel_rfl)
  have h54 := @run_callFunc_extern Tryd.prog 78 _ (ReflectliteValue.method (ReflectliteValue.valueError "reflectlite.Value.Elem" 0) ReflectliteValue.elem) Tryd.func78 (by kernel_rfl) (by kernel_rfl) (by kernel_rfl) (by kernel_rfl)
  have h55 := @run_callFunc_extern Tryd.prog 79 _ ReflectliteValue.set Tryd.func79 (by kernel_rfl) (by kernel_rfl) (by kernel_rfl) (by kernel_rfl)
  have v0 := As.valueOf74
  have ty := As.type74
  have mK := As.mKind
  have mE := As.mElem
  have mI := As.mImplements
  have mA := As.mAssignableTo
  have k0 := As.kind74
  have k1 := As.kind24
  have el := As.elem74
  have nn := As.isNil74
  have im := As.implements24
  have tO := AsF.typeOfF
  have tO2 := As.typeOf24
  have aT := AsF.assignF_24
  have aT2 := As.assign24_24
  have v1 := As.valueOf24
  have nA := AsF.noAsF
  have un := AsF.unwrapF
  have mU := AsF.mUnwrap
  have ev := As.elemV74 ⟨w.heap.size, 0, none⟩ ⟨b, 0, none⟩ ((((w.alloc (.cells #[.pointer (some ⟨b, 0, none⟩)] 94)).alloc (.cells #[hd 94, .pointer (some ⟨w.heap.size, 0, none⟩), .int .u64 150] 125)).alloc (.cells #[hd 94, .pointer (some ⟨w.heap.size, 0, none⟩), .int .u64 150] 125)).alloc (.cells #[.string x, .int .i64 y] 121)) (by rw [World.cell?_alloc_lt _ _ ⟨w.heap.size, 0, none⟩ (by simp <;> omega), World.cell?_alloc_lt _ _ ⟨w.heap.size, 0, none⟩ (by simp <;> omega), World.cell?_alloc_lt _ _ ⟨w.heap.size, 0, none⟩ (by simp), World.cell?_alloc_new]; rfl)
  have st := As.set24 ⟨b, 0, none⟩ (w.heap.size + 1 + 1 + 1 + 1) y old (((((w.alloc (.cells #[.pointer (some ⟨b, 0, none⟩)] 94)).alloc (.cells #[hd 94, .pointer (some ⟨w.heap.size, 0, none⟩), .int .u64 150] 125)).alloc (.cells #[hd 94, .pointer (some ⟨w.heap.size, 0, none⟩), .int .u64 150] 125)).alloc (.cells #[.string x, .int .i64 y] 121)).alloc (.cells #[.int .i64 y] 24)) (by rw [World.cell?_alloc_at _ _ _ _ (by simp)]; rfl) (by rw [World.cell?_alloc_lt _ _ ⟨b, 0, none⟩ (by simp <;> omega), World.cell?_alloc_lt _ _ ⟨b, 0, none⟩ (by simp <;> omega), World.cell?_alloc_lt _ _ ⟨b, 0, none⟩ (by simp <;> omega), World.cell?_alloc_lt _ _ ⟨b, 0, none⟩ (by simp <;> omega), World.cell?_alloc_lt _ _ ⟨b, 0, none⟩ (by simp <;> omega)]; exact ht) (by rw [World.frozen?_alloc_old _ _ ⟨b, 0, none⟩ (by simp <;> omega), World.frozen?_alloc_old _ _ ⟨b, 0, none⟩ (by simp <;> omega), World.frozen?_alloc_old _ _ ⟨b, 0, none⟩ (by simp <;> omega), World.frozen?_alloc_old _ _ ⟨b, 0, none⟩ (by simp <;> omega), World.frozen?_alloc_old _ _ ⟨b, 0, none⟩ (by simp <;> omega)]; exact hf)
  go_enter Tryd.func47, Tryd.ntmps47
  go_wp2
  refine wp_loop_rounds 2 ?_
  rw [rounds_succ]
  go_wp2
  rw [rounds_succ]
  go_wp2
  go_ret
  exact ⟨rfl, ⟨_, (((((World.grownBy_alloc _ _ _).trans (World.grownBy_alloc _ _ _)).trans (World.grownBy_alloc _ _ _)).trans (World.grownBy_alloc _ _ _)).trans (World.grownBy_alloc _ _ _)), rfl⟩⟩
end Go.Proofs.YtlbebdkockejcaaDoor
