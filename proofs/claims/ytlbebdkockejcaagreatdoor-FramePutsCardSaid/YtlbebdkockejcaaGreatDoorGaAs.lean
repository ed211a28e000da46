/-
  Merged: RlpAs, RlpAs2, RlpAsA, RlpAsB, RlpAsC, RlpAsD, RlpWhy.
-/
import Derived.Test.YtlbebdkockejcaaGreatDoorGaRlp
import Derived.LaidEql
import Derived.Stop.Asserts
import Derived.RowKitTokens
import Derived.Maps.AppendAt
import Derived.Handy
import Derived.Deep.RegionHeld
namespace Go.Proofs.YtlbebdkockejcaaGreatDoor
open Go.RowKit Go.Extern.Stop Go.Stop Go.Extern
/-- The handle of a type. -/
abbrev hd (t : Nat) : Value := .pointer (some ⟨2, t, none⟩)
abbrev rt (t : Nat) : Value := .iface 152 (.agg #[hd t])
abbrev rv (t : Nat) (a : Addr) (f : Int) : Value := .agg #[hd t, .pointer (some a), .int .u64 f]
/-- errors.As(nil, target). -/
theorem as_nil (t : Value) (w : World) :
    Calls Tryz.prog 68 #[.nilIface, t] w fun e w' => e = .returned (.bool false) ∧ w = w' := by
  go_enter Tryz.func68, Tryz.ntmps68
  go_wp2_with fail
  go_ret
  exact ⟨rfl, rfl⟩
theorem As.rlm (z : Sem Value) (f : TypeId → Addr → Nat → Nat → Sem Value) (v : Value) :
    ReflectliteValue.method z f #[v] = (do match ← ReflectliteValue.parts v with | none => z | some (t, a, fl) => f t a fl (fl % 32)) := rfl
theorem As.rls (v x : Value) : ReflectliteValue.set #[v, x] = (do
    let (some (dst, a, fl), some (src, b, _)) := (← ReflectliteValue.parts v, ← ReflectliteValue.parts x)
      | unsupported (.noEntry "extern/(internal/reflectlite.Value).Set.zeroValue")
    if fl / ReflectliteValue.flagAddr % 2 == 0 then unsupported (.noEntry "extern/(internal/reflectlite.Value).Set.unaddressable")
    let val ← loadVar src b
    if ← Rtype.directlyAssignable dst src then storeVar dst a val
    else if ← Rtype.implements dst src then
      if (← Rtype.kind src) == 20 then
        match val with
        | .nilIface => unsupported (.noEntry "extern/reflectlite: a nil value of one interface type handed on as a value of another")
        | _ => storeVar dst a val
      else storeVar dst a (.iface src val)
    else panicString ("reflectlite.Set: value of type " ++ (← Rtype.spelt src) ++ " is not assignable to type " ++ (← Rtype.spelt dst))
    pure (.tuple #[])) := rfl
theorem As.mKind (h : Value) (w : World) : (Go.method 220 152 (.agg #[h]) "Kind").run Tryz.prog w = .ok (123, h) w := by kernel_rfl
theorem As.mElem (h : Value) (w : World) : (Go.method 220 152 (.agg #[h]) "Elem").run Tryz.prog w = .ok (136, .agg #[h]) w := by kernel_rfl
theorem As.mImplements (h : Value) (w : World) : (Go.method 220 152 (.agg #[h]) "Implements").run Tryz.prog w = .ok (137, .agg #[h]) w := by kernel_rfl
theorem As.mAssignableTo (h : Value) (w : World) : (Go.method 220 152 (.agg #[h]) "AssignableTo").run Tryz.prog w = .ok (134, .agg #[h]) w := by kernel_rfl
theorem As.mComparable (h : Value) (w : World) : (Go.method 220 152 (.agg #[h]) "Comparable").run Tryz.prog w = .ok (135, .agg #[h]) w := by kernel_rfl
theorem As.mUnwrap (h : Value) (w : World) : (Go.method 220 168 h "Unwrap").run Tryz.prog w = .ok (146, h) w := by kernel_rfl
theorem As.mAt (h : Value) (w : World) : (Go.method 220 168 h "At").run Tryz.prog w = .ok (144, h) w := by kernel_rfl

theorem As.valueOf72 (t : Addr) (w : World) : (ReflectliteValue.unpack (.iface 172 (.pointer (some t)))).run Tryz.prog w = .ok (rv 172 ⟨w.heap.size, 0, none⟩ 150) (w.alloc (.cells #[.pointer (some t)] 172)) := by kernel_rfl
theorem As.type72 (a : Addr) (w : World) : (ReflectliteValue.methodAny (ReflectliteValue.valueError "reflectlite.Value.Type" 0) (fun t _ _ _ => ReflectliteType.toType t) #[rv 172 a 150]).run Tryz.prog w = .ok (rt 172) w := by kernel_rfl
theorem As.kind72 (w : World) : ((ReflectliteType.abiMethod fun t => (fun a : Nat => Value.int IntKind.u8 (a : Int)) <$> Rtype.kind t) #[hd 172]).run Tryz.prog w = .ok (.int .u8 22) w := by kernel_rfl
theorem As.kind70 (w : World) : ((ReflectliteType.abiMethod fun t => (fun a : Nat => Value.int IntKind.u8 (a : Int)) <$> Rtype.kind t) #[hd 171]).run Tryz.prog w = .ok (.int .u8 20) w := by kernel_rfl
theorem As.parts72 (a : Addr) (w : World) : (ReflectliteValue.parts (rv 172 a 150)).run Tryz.prog w = .ok (some (172, a, 150)) w := by kernel_rfl
theorem As.isNil72 (a p : Addr) (W : World) (ha : W.cell? a = some (.pointer (some p))) :
    (ReflectliteValue.method (ReflectliteValue.valueError "reflectlite.Value.IsNil" 0) ReflectliteValue.isNil #[rv 172 a 150]).run Tryz.prog W = .ok (.bool false) W := by
  rw [As.rlm]
  simp only [Sem.run_bind, As.parts72, Result.andThen]
  simp [ReflectliteValue.isNil, loadVar, isAgg, underlying, Tryz.underlying172, ha, Result.andThen]
theorem As.elem72 (w : World) : (ReflectliteType.method ReflectliteType.elem #[.agg #[hd 172]]).run Tryz.prog w = .ok (rt 171) w := by kernel_rfl
theorem As.elemOf72 (w : World) : (Rtype.elem? 172).run Tryz.prog w = .ok (some 171) w := by kernel_rfl
theorem As.mk70 (p : Addr) (w : World) : (ReflectliteValue.mk 171 p ReflectliteValue.flagAddr).run Tryz.prog w = .ok (rv 171 p 404) w := by kernel_rfl
theorem As.elemV72 (a p : Addr) (W : World) (ha : W.cell? a = some (.pointer (some p))) :
    (ReflectliteValue.method (ReflectliteValue.valueError "reflectlite.Value.Elem" 0) ReflectliteValue.elem #[rv 172 a 150]).run Tryz.prog W = .ok (rv 171 p 404) W := by
  rw [As.rlm]
  simp only [Sem.run_bind, As.parts72, Result.andThen]
  simp [ReflectliteValue.elem, loadVar, isAgg, underlying, Tryz.underlying172, ha, Result.andThen, As.elemOf72, As.mk70]
theorem As.partsE70 (a : Addr) (w : World) : (ReflectliteValue.parts (rv 171 a 404)).run Tryz.prog w = .ok (some (171, a, 404)) w := by kernel_rfl

theorem As.valueOf74 (t : Addr) (w : World) : (ReflectliteValue.unpack (.iface 98 (.pointer (some t)))).run Tryz.prog w = .ok (rv 98 ⟨w.heap.size, 0, none⟩ 150) (w.alloc (.cells #[.pointer (some t)] 98)) := by kernel_rfl
theorem As.type74 (a : Addr) (w : World) : (ReflectliteValue.methodAny (ReflectliteValue.valueError "reflectlite.Value.Type" 0) (fun t _ _ _ => ReflectliteType.toType t) #[rv 98 a 150]).run Tryz.prog w = .ok (rt 98) w := by kernel_rfl
theorem As.kind74 (w : World) : ((ReflectliteType.abiMethod fun t => (fun a : Nat => Value.int IntKind.u8 (a : Int)) <$> Rtype.kind t) #[hd 98]).run Tryz.prog w = .ok (.int .u8 22) w := by kernel_rfl
theorem As.kind24 (w : World) : ((ReflectliteType.abiMethod fun t => (fun a : Nat => Value.int IntKind.u8 (a : Int)) <$> Rtype.kind t) #[hd 24]).run Tryz.prog w = .ok (.int .u8 2) w := by kernel_rfl
theorem As.parts74 (a : Addr) (w : World) : (ReflectliteValue.parts (rv 98 a 150)).run Tryz.prog w = .ok (some (98, a, 150)) w := by kernel_rfl
theorem As.isNil74 (a p : Addr) (W : World) (ha : W.cell? a = some (.pointer (some p))) :
    (ReflectliteValue.method (ReflectliteValue.valueError "reflectlite.Value.IsNil" 0) ReflectliteValue.isNil #[rv 98 a 150]).run Tryz.prog W = .ok (.bool false) W := by
  rw [As.rlm]
  simp only [Sem.run_bind, As.parts74, Result.andThen]
  simp [ReflectliteValue.isNil, loadVar, isAgg, underlying, Tryz.underlying98, ha, Result.andThen]
theorem As.elem74 (w : World) : (ReflectliteType.method ReflectliteType.elem #[.agg #[hd 98]]).run Tryz.prog w = .ok (rt 24) w := by kernel_rfl
theorem As.elemOf74 (w : World) : (Rtype.elem? 98).run Tryz.prog w = .ok (some 24) w := by kernel_rfl
theorem As.mk24 (p : Addr) (w : World) : (ReflectliteValue.mk 24 p ReflectliteValue.flagAddr).run Tryz.prog w = .ok (rv 24 p 386) w := by kernel_rfl
theorem As.elemV74 (a p : Addr) (W : World) (ha : W.cell? a = some (.pointer (some p))) :
    (ReflectliteValue.method (ReflectliteValue.valueError "reflectlite.Value.Elem" 0) ReflectliteValue.elem #[rv 98 a 150]).run Tryz.prog W = .ok (rv 24 p 386) W := by
  rw [As.rlm]
  simp only [Sem.run_bind, As.parts74, Result.andThen]
  simp [ReflectliteValue.elem, loadVar, isAgg, underlying, Tryz.underlying98, ha, Result.andThen, As.elemOf74, As.mk24]
theorem As.partsE24 (a : Addr) (w : World) : (ReflectliteValue.parts (rv 24 a 386)).run Tryz.prog w = .ok (some (24, a, 386)) w := by kernel_rfl

theorem As.implements24 (w : World) : (ReflectliteType.relation "Implements" ReflectliteType.implements_ #[.agg #[hd 24], rt 94]).run Tryz.prog w = .ok (.bool true) w := by kernel_rfl
theorem As.typeOf24 (v : Value) (w : World) : (ReflectliteType.typeOf #[.iface 24 v]).run Tryz.prog w = .ok (rt 24) w := by kernel_rfl
theorem As.typeOf76 (v : Value) (w : World) : (ReflectliteType.typeOf #[.iface 168 v]).run Tryz.prog w = .ok (rt 168) w := by kernel_rfl
theorem As.valueOf24 (n : Int) (w : World) : (ReflectliteValue.unpack (.iface 24 (.int .i64 n))).run Tryz.prog w = .ok (rv 24 ⟨w.heap.size, 0, none⟩ 130) (w.alloc (.cells #[.int .i64 n] 24)) := by kernel_rfl
theorem As.valueOf76 (x y : Int) (w : World) : (ReflectliteValue.unpack (.iface 168 (.agg #[.int .i64 x, .int .i64 y]))).run Tryz.prog w = .ok (rv 168 ⟨w.heap.size, 0, none⟩ 153) (w.alloc (.cells #[.int .i64 x, .int .i64 y] 168)) := by kernel_rfl
theorem As.parts24 (a : Addr) (w : World) : (ReflectliteValue.parts (rv 24 a 130)).run Tryz.prog w = .ok (some (24, a, 130)) w := by kernel_rfl
theorem As.parts76 (a : Addr) (w : World) : (ReflectliteValue.parts (rv 168 a 153)).run Tryz.prog w = .ok (some (168, a, 153)) w := by kernel_rfl
theorem As.direct24 (w : World) : (Rtype.directlyAssignable 24 24).run Tryz.prog w = .ok true w := by kernel_rfl
theorem As.direct76 (w : World) : (Rtype.directlyAssignable 171 168).run Tryz.prog w = .ok false w := by kernel_rfl
theorem As.impl76 (w : World) : (Rtype.implements 171 168).run Tryz.prog w = .ok true w := by kernel_rfl
theorem As.kindOf76 (w : World) : (Rtype.kind 168).run Tryz.prog w = .ok 25 w := by kernel_rfl

theorem As.assign76_70 (w : World) : (ReflectliteType.relation "AssignableTo" ReflectliteType.assignableTo #[.agg #[hd 168], rt 171]).run Tryz.prog w = .ok (.bool true) w := by kernel_rfl
theorem As.assign76_24 (w : World) : (ReflectliteType.relation "AssignableTo" ReflectliteType.assignableTo #[.agg #[hd 168], rt 24]).run Tryz.prog w = .ok (.bool false) w := by kernel_rfl
theorem As.assign24_24 (w : World) : (ReflectliteType.relation "AssignableTo" ReflectliteType.assignableTo #[.agg #[hd 24], rt 24]).run Tryz.prog w = .ok (.bool true) w := by kernel_rfl
theorem As.np24 (w : World) : (Rtype.noPackMethods "a method set held against an interface's list" 24).run Tryz.prog w = .ok () w := by kernel_rfl
theorem As.np70 (w : World) : (Rtype.noPackMethods "a method set held against an interface's list" 171).run Tryz.prog w = .ok () w := by kernel_rfl
theorem As.desc70 : (Tryz.prog.info? 171).map (·.desc) = some (.interface #[("At", 91)]) := by kernel_rfl
theorem As.desc3 : (Tryz.prog.info? 3).map (·.desc) = some (.int .i64) := by kernel_rfl
theorem As.desc24 : (Tryz.prog.info? 24).map (fun i => match i.desc with | .named _ u => u | _ => 0) = some 3 := by kernel_rfl
theorem As.lack24 : (Tryz.prog.info? 24).map (fun i => (lacking #[("At", 91)] i.methods).isEmpty) = some false := by kernel_rfl
theorem As.noimpl (w : World) : (Rtype.implements 171 24).run Tryz.prog w = .ok false w := by
  obtain ⟨i, hi, hl⟩ := Option.map_eq_some_iff.1 As.lack24
  obtain ⟨i', hi', hn⟩ := Option.map_eq_some_iff.1 As.desc24
  obtain rfl := Option.some.inj (hi.symm.trans hi')
  obtain ⟨j, hj, hd⟩ := Option.map_eq_some_iff.1 As.desc70
  obtain ⟨k, hk, hd3⟩ := Option.map_eq_some_iff.1 As.desc3
  have u24 : (Rtype.under 24).run Tryz.prog w = .ok (3, k) w := by
    rcases hdd : i.desc with _ | _ | _ <;> simp [hdd] at hn
    subst hn
    simp [Rtype.under, typeInfo, hi, hdd, hk]
  have u70 : (Rtype.under 171).run Tryz.prog w = .ok (171, j) w := by
    simp [Rtype.under, typeInfo, hj, hd]
  obtain ⟨m, hm⟩ := missingMethod_some (want := #[("At", 91)]) (got := i.methods) (fun e => by rw [e] at hl; cases hl)
  simp [Rtype.implements, As.np24, As.np70, u24, u70, Result.andThen, hd, hd3, typeInfo, hi, hm]
theorem As.np24a (w : World) : (Rtype.noPackMethods "AssignableTo" 24).run Tryz.prog w = .ok () w := by kernel_rfl
theorem As.np70a (w : World) : (Rtype.noPackMethods "AssignableTo" 171).run Tryz.prog w = .ok () w := by kernel_rfl
theorem As.direct24_70 (w : World) : (Rtype.directlyAssignable 171 24).run Tryz.prog w = .ok false w := by kernel_rfl
theorem As.ofR24 (w : World) : (ReflectliteType.ofRtype (.agg #[hd 24])).run Tryz.prog w = .ok 24 w := by kernel_rfl
theorem As.ofR70 (w : World) : (ReflectliteType.ofRtype (.agg #[hd 171])).run Tryz.prog w = .ok 171 w := by kernel_rfl
theorem As.rel (what : String) (f : TypeId → TypeId → Sem Bool) (r u : Value) (t : TypeId) : ReflectliteType.relation what f #[r, .iface t u] = (do pure (.bool (← f (← ReflectliteType.ofRtype u) (← ReflectliteType.ofRtype r)))) := rfl
theorem As.assign24_70 (w : World) : (ReflectliteType.relation "AssignableTo" ReflectliteType.assignableTo #[.agg #[hd 24], rt 171]).run Tryz.prog w = .ok (.bool false) w := by
  rw [As.rel]
  simp [ReflectliteType.assignableTo, As.ofR24, As.ofR70, As.np24a, As.np70a, As.direct24_70, As.noimpl, Result.andThen]

theorem As.noAs76 (v : Value) (xT : TypeId) (w : World) : (Instr.typeAssert (.iface 168 v) xT 157 true).run Tryz.prog w = .ok (.tuple #[.nilIface, .bool false]) w := run_typeAssert_lacksB Tryz.underlying157 (by kernel_rfl) (by kernel_rfl) v xT w
theorem As.noIs76 (v : Value) (xT : TypeId) (w : World) : (Instr.typeAssert (.iface 168 v) xT 176 true).run Tryz.prog w = .ok (.tuple #[.nilIface, .bool false]) w := run_typeAssert_lacksB Tryz.underlying176 (by kernel_rfl) (by kernel_rfl) v xT w
theorem As.noAs24 (v : Value) (xT : TypeId) (w : World) : (Instr.typeAssert (.iface 24 v) xT 157 true).run Tryz.prog w = .ok (.tuple #[.nilIface, .bool false]) w := run_typeAssert_lacksB Tryz.underlying157 (by kernel_rfl) (by kernel_rfl) v xT w
theorem As.noIs24 (v : Value) (xT : TypeId) (w : World) : (Instr.typeAssert (.iface 24 v) xT 176 true).run Tryz.prog w = .ok (.tuple #[.nilIface, .bool false]) w := run_typeAssert_lacksB Tryz.underlying176 (by kernel_rfl) (by kernel_rfl) v xT w
theorem As.unwrap76 (v : Value) (xT : TypeId) (w : World) : (Instr.typeAssert (.iface 168 v) xT 160 true).run Tryz.prog w = .ok (.tuple #[.iface 168 v, .bool true]) w := run_typeAssert_hasB Tryz.underlying160 (by kernel_rfl) v xT w
theorem As.unwrap24 (v : Value) (xT : TypeId) (w : World) : (Instr.typeAssert (.iface 24 v) xT 160 true).run Tryz.prog w = .ok (.tuple #[.nilIface, .bool false]) w := run_typeAssert_lacksB Tryz.underlying160 (by kernel_rfl) (by kernel_rfl) v xT w
theorem As.unwraps24 (v : Value) (xT : TypeId) (w : World) : (Instr.typeAssert (.iface 24 v) xT 162 true).run Tryz.prog w = .ok (.tuple #[.nilIface, .bool false]) w := run_typeAssert_lacksB Tryz.underlying162 (by kernel_rfl) (by kernel_rfl) v xT w
end Go.Proofs.YtlbebdkockejcaaGreatDoor
namespace Go.Proofs.YtlbebdkockejcaaGreatDoor
open Go.RowKit Go.Extern.Stop Go.Stop Go.Extern
set_option linter.unusedVariables false
set_option linter.unusedSimpArgs false
theorem As.size70 (w : World) : (sizeOf 171).run Tryz.prog w = .ok 1 w := by kernel_rfl
theorem As.size24 (w : World) : (sizeOf 24).run Tryz.prog w = .ok 1 w := by kernel_rfl
theorem As.size76 (w : World) : (sizeOf 168).run Tryz.prog w = .ok 2 w := by kernel_rfl
theorem As.isAgg76 (w : World) : (isAgg 168).run Tryz.prog w = .ok true w := by kernel_rfl
theorem As.isAgg24 (w : World) : (isAgg 24).run Tryz.prog w = .ok false w := by kernel_rfl
/-- (Value).Set: the interface variable at 'ta' gets the fault that the Value's own variable holds. -/
theorem As.set70 (ta : Addr) (b : Nat) (x y : Int) (old : Value) (W : World) (hb : W.cell? ⟨b, 0, none⟩ = some (.int .i64 x)) (hb1 : W.cell? ⟨b, 1, none⟩ = some (.int .i64 y)) (ht : W.cell? ta = some old) (hf : W.frozen? ta = false) :
    (ReflectliteValue.set #[rv 171 ta 404, rv 168 ⟨b, 0, none⟩ 153]).run Tryz.prog W
      = .ok (.tuple #[]) (W.setCell ta (.iface 168 (.agg #[.int .i64 x, .int .i64 y]))) := by
  have hl : (loadCells ⟨b, 0, none⟩ 2).run Tryz.prog W = .ok #[.int .i64 x, .int .i64 y] W := by
    have := run_loadCells_list (P := Tryz.prog) W ⟨b, 0, none⟩ [.int .i64 x, .int .i64 y] (fun j v hj => by
      match j with
      | 0 => simp at hj; subst hj; simpa [Addr.add] using hb
      | 1 => simp at hj; subst hj; simpa [Addr.add] using hb1
      | j + 2 => simp at hj)
    simpa using this
  rw [As.rls]
  simp only [Sem.run_bind, As.partsE70, As.parts76, Result.andThen]
  simp [ReflectliteValue.flagAddr, loadVar, As.isAgg76, As.size76, hl, Result.andThen, As.direct76, As.impl76, As.kindOf76, storeVar, Value.cells, storeCells, Addr.add, As.size70]
  rw [run_store Tryz.prog W ta _ _ (by rfl)]
  simp [ht, hf]
theorem As.set24 (ta : Addr) (b : Nat) (n : Int) (old : Value) (W : World) (hb : W.cell? ⟨b, 0, none⟩ = some (.int .i64 n)) (ht : W.cell? ta = some old) (hf : W.frozen? ta = false) :
    (ReflectliteValue.set #[rv 24 ta 386, rv 24 ⟨b, 0, none⟩ 130]).run Tryz.prog W
      = .ok (.tuple #[]) (W.setCell ta (.int .i64 n)) := by
  rw [As.rls]
  simp only [Sem.run_bind, As.partsE24, As.parts24, Result.andThen]
  simp [ReflectliteValue.flagAddr, loadVar, As.isAgg24, hb, Result.andThen, As.direct24, storeVar, Value.cells, storeCells, Addr.add, As.size24]
  rw [run_store Tryz.prog W ta _ _ (by rfl)]
  simp [ht, hf]

end Go.Proofs.YtlbebdkockejcaaGreatDoor
namespace Go.Proofs.YtlbebdkockejcaaGreatDoor
open Go.RowKit Go.Extern.Stop Go.Stop Go.Extern
set_option linter.unusedVariables false
set_option linter.unusedSimpArgs false
set_option maxRecDepth 100000 in
set_option maxHeartbeats 4000000 in
/-- errors.As: a fault, asked where. -/
theorem as_fault_place (x y : Int) (b : Nat) (old : Value) (w : World) (ht : w.cell? ⟨b, 0, none⟩ = some old) (hf : w.frozen? ⟨b, 0, none⟩ = false) :
    Calls Tryz.prog 68 #[.iface 168 (.agg #[.int .i64 x, .int .i64 y]), .iface 172 (.pointer (some ⟨b, 0, none⟩))] w fun e w' => e = .returned (.bool true) ∧ ∃ W, w.grownBy W none ∧ w' = W.setCell ⟨b, 0, none⟩ (.iface 168 (.agg #[.int .i64 x, .int .i64 y])) := by
  have hbl : b < w.heap.size := World.block_lt_of_cell? w ⟨b, 0, none⟩ ht
  have h47 := @run_callFunc_extern Tryz.prog 87 _ (fun args => ReflectliteValue.unpack (args.getD 0 (.tuple #[]))) Tryz.func87 (by kernel_rfl) (by kernel_rfl) (by kernel_rfl) (by kernel_rfl)
  have h48 := @run_callFunc_extern Tryz.prog 88 _ (ReflectliteValue.methodAny (ReflectliteValue.valueError "reflectlite.Value.Type" 0) (fun t _ _ _ => ReflectliteType.toType t)) Tryz.func88 (by kernel_rfl) (by kernel_rfl) (by kernel_rfl) (by kernel_rfl)
  have h49 := @run_callFunc_extern Tryz.prog 89 _ (ReflectliteValue.method (ReflectliteValue.valueError "reflectlite.Value.IsNil" 0) ReflectliteValue.isNil) Tryz.func89 (by kernel_rfl) (by kernel_rfl) (by kernel_rfl) (by kernel_rfl)
  have h72 := @run_callFunc_extern Tryz.prog 123 _ (ReflectliteType.abiMethod fun t => do pure (.int .u8 (← Rtype.kind t))) Tryz.func123 (by kernel_rfl) (by kernel_rfl) (by kernel_rfl) (by kernel_rfl)
  have h86 := @run_callFunc_extern Tryz.prog 136 _ (ReflectliteType.method ReflectliteType.elem) Tryz.func136 (by kernel_rfl) (by kernel_rfl) (by kernel_rfl) (by kernel_rfl)
  have h87 := @run_callFunc_extern Tryz.prog 137 _ (ReflectliteType.relation "Implements" ReflectliteType.implements_) Tryz.func137 (by kernel_rfl) (by kernel_rfl) (by kernel_rfl) (by kernel_rfl)
  have h40 := @run_callFunc_extern Tryz.prog 101 _ ReflectliteType.typeOf Tryz.func101 (by kernel_rfl) (by kernel_rfl) (by kernel_rfl) (by kernel_rfl)
  have h84 := @run_callFunc_extern Tryz.prog 134 _ (ReflectliteType.relation "AssignableTo" ReflectliteType.assignableTo) Tryz.func134 (by kernel_rfl) (by kernel_rfl) (by kernel_rfl) (by kernel_rfl)
  have h54 := @run_callFunc_extern Tryz.prog 102 _ (ReflectliteValue.method (ReflectliteValue.valueError "reflectlite.Value.Elem" 0) ReflectliteValue.elem) Tryz.func102 (by kernel_rfl) (by kernel_rfl) (by kernel_rfl) (by kernel_rfl)
  have h55 := @run_callFunc_extern Tryz.prog 103 _ ReflectliteValue.set Tryz.func103 (by kernel_rfl) (by kernel_rfl) (by kernel_rfl) (by kernel_rfl)
  have v0 := As.valueOf72
  have ty := As.type72
  have mK := As.mKind
  have mE := As.mElem
  have mI := As.mImplements
  have mA := As.mAssignableTo
  have k0 := As.kind72
  have k1 := As.kind70
  have el := As.elem72
  have nn := As.isNil72
  have tO := As.typeOf76
  have aT := As.assign76_70
  have v1 := As.valueOf76
  have ev := As.elemV72 ⟨w.heap.size, 0, none⟩ ⟨b, 0, none⟩ (((w.alloc (.cells #[.pointer (some ⟨b, 0, none⟩)] 172)).alloc (.cells #[hd 172, .pointer (some ⟨w.heap.size, 0, none⟩), .int .u64 150] 125)).alloc (.cells #[hd 172, .pointer (some ⟨w.heap.size, 0, none⟩), .int .u64 150] 125)) (by rw [World.cell?_alloc_lt _ _ ⟨w.heap.size, 0, none⟩ (by simp; omega), World.cell?_alloc_lt _ _ ⟨w.heap.size, 0, none⟩ (by simp), World.cell?_alloc_new]; rfl)
  have st := As.set70 ⟨b, 0, none⟩ (w.heap.size + 1 + 1 + 1) x y old ((((w.alloc (.cells #[.pointer (some ⟨b, 0, none⟩)] 172)).alloc (.cells #[hd 172, .pointer (some ⟨w.heap.size, 0, none⟩), .int .u64 150] 125)).alloc (.cells #[hd 172, .pointer (some ⟨w.heap.size, 0, none⟩), .int .u64 150] 125)).alloc (.cells #[.int .i64 x, .int .i64 y] 168)) (by rw [World.cell?_alloc_at _ _ _ _ (by simp)]; rfl) (by rw [World.cell?_alloc_at _ _ _ _ (by simp)]; rfl) (by rw [World.cell?_alloc_lt _ _ ⟨b, 0, none⟩ (by simp; omega), World.cell?_alloc_lt _ _ ⟨b, 0, none⟩ (by simp; omega), World.cell?_alloc_lt _ _ ⟨b, 0, none⟩ (by simp; omega), World.cell?_alloc_lt _ _ ⟨b, 0, none⟩ (by simp; omega)]; exact ht) (by rw [World.frozen?_alloc_old _ _ ⟨b, 0, none⟩ (by simp; omega), World.frozen?_alloc_old _ _ ⟨b, 0, none⟩ (by simp; omega), World.frozen?_alloc_old _ _ ⟨b, 0, none⟩ (by simp; omega), World.frozen?_alloc_old _ _ ⟨b, 0, none⟩ (by simp; omega)]; exact hf)
  go_enter Tryz.func68, Tryz.ntmps68
  go_wp2
  refine wp_loop_rounds 1 ?_
  rw [rounds_succ]
  go_wp2
  go_ret
  exact ⟨rfl, ⟨_, ((((World.grownBy_alloc _ _ _).trans (World.grownBy_alloc _ _ _)).trans (World.grownBy_alloc _ _ _)).trans (World.grownBy_alloc _ _ _)), rfl⟩⟩
end Go.Proofs.YtlbebdkockejcaaGreatDoor
namespace Go.Proofs.YtlbebdkockejcaaGreatDoor
open Go.RowKit Go.Extern.Stop Go.Stop Go.Extern
set_option linter.unusedVariables false
set_option linter.unusedSimpArgs false
set_option maxRecDepth 100000 in
set_option maxHeartbeats 4000000 in
/-- errors.As: a fault, asked what. -/
theorem as_fault_number (x y : Int) (b : Nat) (old : Value) (w : World) (hg : w.cell? ⟨0, 0, none⟩ = some (rt 94)) (ht : w.cell? ⟨b, 0, none⟩ = some old) (hf : w.frozen? ⟨b, 0, none⟩ = false) :
    Calls Tryz.prog 68 #[.iface 168 (.agg #[.int .i64 x, .int .i64 y]), .iface 98 (.pointer (some ⟨b, 0, none⟩))] w fun e w' => e = .returned (.bool true) ∧ ∃ W, w.grownBy W none ∧ w' = W.setCell ⟨b, 0, none⟩ (.int .i64 y) := by
  have hbl : b < w.heap.size := World.block_lt_of_cell? w ⟨b, 0, none⟩ ht
  have hg2 : ((w.alloc (.cells #[.pointer (some ⟨b, 0, none⟩)] 98)).alloc (.cells #[hd 98, .pointer (some ⟨w.heap.size, 0, none⟩), .int .u64 150] 125)).cell? ⟨0, 0, none⟩ = some (rt 94) := by
    have this : 0 < w.heap.size := World.block_lt_of_cell? w ⟨0, 0, none⟩ hg
    rw [World.cell?_alloc_lt _ _ ⟨0, 0, none⟩ (by simp <;> omega), World.cell?_alloc_lt _ _ ⟨0, 0, none⟩ this]
    exact hg
  have h47 := @run_callFunc_extern Tryz.prog 87 _ (fun args => ReflectliteValue.unpack (args.getD 0 (.tuple #[]))) Tryz.func87 (by kernel_rfl) (by kernel_rfl) (by kernel_rfl) (by kernel_rfl)
  have h48 := @run_callFunc_extern Tryz.prog 88 _ (ReflectliteValue.methodAny (ReflectliteValue.valueError "reflectlite.Value.Type" 0) (fun t _ _ _ => ReflectliteType.toType t)) Tryz.func88 (by kernel_rfl) (by kernel_rfl) (by kernel_rfl) (by kernel_rfl)
  have h49 := @run_callFunc_extern Tryz.prog 89 _ (ReflectliteValue.method (ReflectliteValue.valueError "reflectlite.Value.IsNil" 0) ReflectliteValue.isNil) Tryz.func89 (by kernel_rfl) (by kernel_rfl) (by kernel_rfl) (by kernel_rfl)
  have h72 := @run_callFunc_extern Tryz.prog 123 _ (ReflectliteType.abiMethod fun t => do pure (.int .u8 (← Rtype.kind t))) Tryz.func123 (by kernel_rfl) (by kernel_rfl) (by kernel_rfl) (by kernel_rfl)
  have h86 := @run_callFunc_extern Tryz.prog 136 _ (ReflectliteType.method ReflectliteType.elem) Tryz.func136 (by kernel_rfl) (by kernel_rfl) (by kernel_rfl) (by kernel_rfl)
  have h87 := @run_callFunc_extern Tryz.prog 137 _ (ReflectliteType.relation "Implements" ReflectliteType.implements_) Tryz.func137 (by kernel_rfl) (by kernel_rfl) (by kernel_rfl) (by kernel_rfl)
  have h40 := @run_callFunc_extern Tryz.prog 101 _ ReflectliteType.typeOf Tryz.func101 (by kernel_rfl) (by kernel_rfl) (by kernel_rfl) (by kernel_rfl)
  have h84 := @run_callFunc_extern Tryz.prog 134 _ (ReflectliteType.relation "AssignableTo" ReflectliteType.assignableTo) Tryz.func134 (by kernel_rfl) (by kernel_rfl) (by kernel_rfl) (by kernel_rfl)
  have h54 := @run_callFunc_extern Tryz.prog 102 _ (ReflectliteValue.method (ReflectliteValue.valueError "reflectlite.Value.Elem" 0) ReflectliteValue.elem) Tryz.func102 (by kernel_rfl) (by kernel_rfl) (by kernel_rfl) (by kernel_rfl)
  have h55 := @run_callFunc_extern Tryz.prog 103 _ ReflectliteValue.set Tryz.func103 (by kernel_rfl) (by kernel_rfl) (by kernel_rfl) (by kernel_rfl)
  have v0 := As.valueOf74
  have ty := As.type74
  have mK := As.mKind
  have mE := As.mElem
  have mI := As.mImplements
  have mA := As.mAssignableTo
  have k0 := As.kind74
  have k1 := As.kind24
  have el := As.elem74
  have nn := As.isNil74
  have im := As.implements24
  have tO := As.typeOf76
  have tO2 := As.typeOf24
  have aT := As.assign76_24
  have aT2 := As.assign24_24
  have v1 := As.valueOf24
  have nA := As.noAs76
  have un := As.unwrap76
  have mU := As.mUnwrap
  have ev := As.elemV74 ⟨w.heap.size, 0, none⟩ ⟨b, 0, none⟩ ((((w.alloc (.cells #[.pointer (some ⟨b, 0, none⟩)] 98)).alloc (.cells #[hd 98, .pointer (some ⟨w.heap.size, 0, none⟩), .int .u64 150] 125)).alloc (.cells #[hd 98, .pointer (some ⟨w.heap.size, 0, none⟩), .int .u64 150] 125)).alloc (.cells #[.int .i64 x, .int .i64 y] 168)) (by rw [World.cell?_alloc_lt _ _ ⟨w.heap.size, 0, none⟩ (by simp <;> omega), World.cell?_alloc_lt _ _ ⟨w.heap.size, 0, none⟩ (by simp <;> omega), World.cell?_alloc_lt _ _ ⟨w.heap.size, 0, none⟩ (by simp), World.cell?_alloc_new]; rfl)
  have st := As.set24 ⟨b, 0, none⟩ (w.heap.size + 1 + 1 + 1 + 1) y old (((((w.alloc (.cells #[.pointer (some ⟨b, 0, none⟩)] 98)).alloc (.cells #[hd 98, .pointer (some ⟨w.heap.size, 0, none⟩), .int .u64 150] 125)).alloc (.cells #[hd 98, .pointer (some ⟨w.heap.size, 0, none⟩), .int .u64 150] 125)).alloc (.cells #[.int .i64 x, .int .i64 y] 168)).alloc (.cells #[.int .i64 y] 24)) (by rw [World.cell?_alloc_at _ _ _ _ (by simp)]; rfl) (by rw [World.cell?_alloc_lt _ _ ⟨b, 0, none⟩ (by simp <;> omega), World.cell?_alloc_lt _ _ ⟨b, 0, none⟩ (by simp <;> omega), World.cell?_alloc_lt _ _ ⟨b, 0, none⟩ (by simp <;> omega), World.cell?_alloc_lt _ _ ⟨b, 0, none⟩ (by simp <;> omega), World.cell?_alloc_lt _ _ ⟨b, 0, none⟩ (by simp <;> omega)]; exact ht) (by rw [World.frozen?_alloc_old _ _ ⟨b, 0, none⟩ (by simp <;> omega), World.frozen?_alloc_old _ _ ⟨b, 0, none⟩ (by simp <;> omega), World.frozen?_alloc_old _ _ ⟨b, 0, none⟩ (by simp <;> omega), World.frozen?_alloc_old _ _ ⟨b, 0, none⟩ (by simp <;> omega), World.frozen?_alloc_old _ _ ⟨b, 0, none⟩ (by simp <;> omega)]; exact hf)
  go_enter Tryz.func68, Tryz.ntmps68
  go_wp2
  refine wp_loop_rounds 2 ?_
  rw [rounds_succ]
  go_wp2
  rw [rounds_succ]
  go_wp2
  go_ret
  exact ⟨rfl, ⟨_, (((((World.grownBy_alloc _ _ _).trans (World.grownBy_alloc _ _ _)).trans (World.grownBy_alloc _ _ _)).trans (World.grownBy_alloc _ _ _)).trans (World.grownBy_alloc _ _ _)), rfl⟩⟩
end Go.Proofs.YtlbebdkockejcaaGreatDoor
namespace Go.Proofs.YtlbebdkockejcaaGreatDoor
open Go.RowKit Go.Extern.Stop Go.Stop Go.Extern
set_option linter.unusedVariables false
set_option linter.unusedSimpArgs false
set_option maxRecDepth 100000 in
set_option maxHeartbeats 4000000 in
/-- errors.As: a number, asked what. -/
theorem as_errno_number (n : Int) (b : Nat) (old : Value) (w : World) (hg : w.cell? ⟨0, 0, none⟩ = some (rt 94)) (ht : w.cell? ⟨b, 0, none⟩ = some old) (hf : w.frozen? ⟨b, 0, none⟩ = false) :
    Calls Tryz.prog 68 #[.iface 24 (.int .i64 n), .iface 98 (.pointer (some ⟨b, 0, none⟩))] w fun e w' => e = .returned (.bool true) ∧ ∃ W, w.grownBy W none ∧ w' = W.setCell ⟨b, 0, none⟩ (.int .i64 n) := by
  have hbl : b < w.heap.size := World.block_lt_of_cell? w ⟨b, 0, none⟩ ht
  have hg2 : ((w.alloc (.cells #[.pointer (some ⟨b, 0, none⟩)] 98)).alloc (.cells #[hd 98, .pointer (some ⟨w.heap.size, 0, none⟩), .int .u64 150] 125)).cell? ⟨0, 0, none⟩ = some (rt 94) := by
    have this : 0 < w.heap.size := World.block_lt_of_cell? w ⟨0, 0, none⟩ hg
    rw [World.cell?_alloc_lt _ _ ⟨0, 0, none⟩ (by simp <;> omega), World.cell?_alloc_lt _ _ ⟨0, 0, none⟩ this]
    exact hg
  have h47 := @run_callFunc_extern Tryz.prog 87 _ (fun args => ReflectliteValue.unpack (args.getD 0 (.tuple #[]))) Tryz.func87 (by kernel_rfl) (by kernel_rfl) (by kernel_rfl) (by kernel_rfl)
  have h48 := @run_callFunc_extern Tryz.prog 88 _ (ReflectliteValue.methodAny (ReflectliteValue.valueError "reflectlite.Value.Type" 0) (fun t _ _ _ => ReflectliteType.toType t)) Tryz.func88 (by kernel_rfl) (by kernel_rfl) (by kernel_rfl) (by kernel_rfl)
  have h49 := @run_callFunc_extern Tryz.prog 89 _ (ReflectliteValue.method (ReflectliteValue.valueError "reflectlite.Value.IsNil" 0) ReflectliteValue.isNil) Tryz.func89 (by kernel_rfl) (by kernel_rfl) (by kernel_rfl) (by kernel_rfl)
  have h72 := @run_callFunc_extern Tryz.prog 123 _ (ReflectliteType.abiMethod fun t => do pure (.int .u8 (← Rtype.kind t))) Tryz.func123 (by kernel_rfl) (by kernel_rfl) (by kernel_rfl) (by kernel_rfl)
  have h86 := @run_callFunc_extern Tryz.prog 136 _ (ReflectliteType.method ReflectliteType.elem) Tryz.func136 (by kernel_rfl) (by kernel_rfl) (by kernel_rfl) (by kernel_rfl)
  have h87 := @run_callFunc_extern Tryz.prog 137 _ (ReflectliteType.relation "Implements" ReflectliteType.implements_) Tryz.func137 (by kernel_rfl) (by kernel_rfl) (by kernel_rfl) (by kernel_rfl)
  have h40 := @run_callFunc_extern Tryz.prog 101 _ ReflectliteType.typeOf Tryz.func101 (by kernel_rfl) (by kernel_rfl) (by kernel_rfl) (by kernel_rfl)
  have h84 := @run_callFunc_extern Tryz.prog 134 _ (ReflectliteType.relation "AssignableTo" ReflectliteType.assignableTo) Tryz.func134 (by kernel_rfl) (by kernel_rfl) (by kernel_rfl) (by kernel_rfl)
  have h54 := @run_callFunc_extern Tryz.prog 102 _ (ReflectliteValue.method (ReflectliteValue.valueError "reflectlite.Value.Elem" 0) ReflectliteValue.elem) Tryz.func102 (by kernel_rfl) (by kernel_rfl) (by kernel_rfl) (by kernel_rfl)
  have h55 := @run_callFunc_extern Tryz.prog 103 _ ReflectliteValue.set Tryz.func103 (by kernel_rfl) (by kernel_rfl) (by kernel_rfl) (by kernel_rfl)
  have v0 := As.valueOf74
  have ty := As.type74
  have mK := As.mKind
  have mE := As.mElem
  have mI := As.mImplements
  have mA := As.mAssignableTo
  have k0 := As.kind74
  have k1 := As.kind24
  have el := As.elem74
  have nn := As.isNil74
  have im := As.implements24
  have tO2 := As.typeOf24
  have aT2 := As.assign24_24
  have v1 := As.valueOf24
  have ev := As.elemV74 ⟨w.heap.size, 0, none⟩ ⟨b, 0, none⟩ (((w.alloc (.cells #[.pointer (some ⟨b, 0, none⟩)] 98)).alloc (.cells #[hd 98, .pointer (some ⟨w.heap.size, 0, none⟩), .int .u64 150] 125)).alloc (.cells #[hd 98, .pointer (some ⟨w.heap.size, 0, none⟩), .int .u64 150] 125)) (by rw [World.cell?_alloc_lt _ _ ⟨w.heap.size, 0, none⟩ (by simp <;> omega), World.cell?_alloc_lt _ _ ⟨w.heap.size, 0, none⟩ (by simp), World.cell?_alloc_new]; rfl)
  have st := As.set24 ⟨b, 0, none⟩ (w.heap.size + 1 + 1 + 1) n old ((((w.alloc (.cells #[.pointer (some ⟨b, 0, none⟩)] 98)).alloc (.cells #[hd 98, .pointer (some ⟨w.heap.size, 0, none⟩), .int .u64 150] 125)).alloc (.cells #[hd 98, .pointer (some ⟨w.heap.size, 0, none⟩), .int .u64 150] 125)).alloc (.cells #[.int .i64 n] 24)) (by rw [World.cell?_alloc_at _ _ _ _ (by simp)]; rfl) (by rw [World.cell?_alloc_lt _ _ ⟨b, 0, none⟩ (by simp <;> omega), World.cell?_alloc_lt _ _ ⟨b, 0, none⟩ (by simp <;> omega), World.cell?_alloc_lt _ _ ⟨b, 0, none⟩ (by simp <;> omega), World.cell?_alloc_lt _ _ ⟨b, 0, none⟩ (by simp <;> omega)]; exact ht) (by rw [World.frozen?_alloc_old _ _ ⟨b, 0, none⟩ (by simp <;> omega), World.frozen?_alloc_old _ _ ⟨b, 0, none⟩ (by simp <;> omega), World.frozen?_alloc_old _ _ ⟨b, 0, none⟩ (by simp <;> omega), World.frozen?_alloc_old _ _ ⟨b, 0, none⟩ (by simp <;> omega)]; exact hf)
  go_enter Tryz.func68, Tryz.ntmps68
  go_wp2
  refine wp_loop_rounds 1 ?_
  rw [rounds_succ]
  go_wp2
  go_ret
  exact ⟨rfl, ⟨_, ((((World.grownBy_alloc _ _ _).trans (World.grownBy_alloc _ _ _)).trans (World.grownBy_alloc _ _ _)).trans (World.grownBy_alloc _ _ _)), rfl⟩⟩
end Go.Proofs.YtlbebdkockejcaaGreatDoor
namespace Go.Proofs.YtlbebdkockejcaaGreatDoor
open Go.RowKit Go.Extern.Stop Go.Stop Go.Extern
set_option linter.unusedVariables false
set_option linter.unusedSimpArgs false
set_option maxRecDepth 100000 in
set_option maxHeartbeats 4000000 in
/-- errors.As: a number, asked where. -/
theorem as_errno_place (n : Int) (b : Nat) (old : Value) (w : World) (ht : w.cell? ⟨b, 0, none⟩ = some old) (hf : w.frozen? ⟨b, 0, none⟩ = false) :
    Calls Tryz.prog 68 #[.iface 24 (.int .i64 n), .iface 172 (.pointer (some ⟨b, 0, none⟩))] w fun e w' => e = .returned (.bool false) ∧ w.grownBy w' none := by
  have hbl : b < w.heap.size := World.block_lt_of_cell? w ⟨b, 0, none⟩ ht
  have h47 := @run_callFunc_extern Tryz.prog 87 _ (fun args => ReflectliteValue.unpack (args.getD 0 (.tuple #[]))) Tryz.func87 (by kernel_rfl) (by kernel_rfl) (by kernel_rfl) (by kernel_rfl)
  have h48 := @run_callFunc_extern Tryz.prog 88 _ (ReflectliteValue.methodAny (ReflectliteValue.valueError "reflectlite.Value.Type" 0) (fun t _ _ _ => ReflectliteType.toType t)) Tryz.func88 (by kernel_rfl) (by kernel_rfl) (by kernel_rfl) (by kernel_rfl)
  have h49 := @run_callFunc_extern Tryz.prog 89 _ (ReflectliteValue.method (ReflectliteValue.valueError "reflectlite.Value.IsNil" 0) ReflectliteValue.isNil) Tryz.func89 (by kernel_rfl) (by kernel_rfl) (by kernel_rfl) (by kernel_rfl)
  have h72 := @run_callFunc_extern Tryz.prog 123 _ (ReflectliteType.abiMethod fun t => do pure (.int .u8 (← Rtype.kind t))) Tryz.func123 (by kernel_rfl) (by kernel_rfl) (by kernel_rfl) (by kernel_rfl)
  have h86 := @run_callFunc_extern Tryz.prog 136 _ (ReflectliteType.method ReflectliteType.elem) Tryz.func136 (by kernel_rfl) (by kernel_rfl) (by kernel_rfl) (by kernel_rfl)
  have h87 := @run_callFunc_extern Tryz.prog 137 _ (ReflectliteType.relation "Implements" ReflectliteType.implements_) Tryz.func137 (by kernel_rfl) (by kernel_rfl) (by kernel_rfl) (by kernel_rfl)
  have h40 := @run_callFunc_extern Tryz.prog 101 _ ReflectliteType.typeOf Tryz.func101 (by kernel_rfl) (by kernel_rfl) (by kernel_rfl) (by kernel_rfl)
  have h84 := @run_callFunc_extern Tryz.prog 134 _ (ReflectliteType.relation "AssignableTo" ReflectliteType.assignableTo) Tryz.func134 (by kernel_rfl) (by kernel_rfl) (by kernel_rfl) (by kernel_rfl)
  have h54 := @run_callFunc_extern Tryz.prog 102 _ (ReflectliteValue.method (ReflectliteValue.valueError "reflectlite.Value.Elem" 0) ReflectliteValue.elem) Tryz.func102 (by kernel_rfl) (by kernel_rfl) (by kernel_rfl) (by kernel_rfl)
  have h55 := @run_callFunc_extern Tryz.prog 103 _ ReflectliteValue.set Tryz.func103 (by kernel_rfl) (by kernel_rfl) (by kernel_rfl) (by kernel_rfl)
  have v0 := As.valueOf72
  have ty := As.type72
  have mK := As.mKind
  have mE := As.mElem
  have mI := As.mImplements
  have mA := As.mAssignableTo
  have k0 := As.kind72
  have k1 := As.kind70
  have el := As.elem72
  have nn := As.isNil72
  have tO := As.typeOf24
  have aT := As.assign24_70
  have nA := As.noAs24
  have un := As.unwrap24
  have us := As.unwraps24
  go_enter Tryz.func68, Tryz.ntmps68
  go_wp2
  refine wp_loop_rounds 1 ?_
  rw [rounds_succ]
  go_wp2
  go_ret
  exact ⟨rfl, (((World.grownBy_alloc _ _ _).trans (World.grownBy_alloc _ _ _)).trans (World.grownBy_alloc _ _ _))⟩
end Go.Proofs.YtlbebdkockejcaaGreatDoor
namespace Go.Proofs.YtlbebdkockejcaaGreatDoor
open Go.RowKit
set_option linter.unusedVariables false
set_option linter.unusedSimpArgs false
/-- Blocks that the world grew by lie above. -/
theorem Below.grownNone {B : Nat} {a b c : World} (h : Below B a b) (hB : B ≤ b.heap.size) (k : b.grownBy c none) : Below B a c := h.grown k hB (fun i hi => by cases hi)
theorem kept_cell {w W : World} (h : w.grownBy W none) {a : Addr} {v : Value} (hc : w.cell? a = some v) : W.cell? a = some v := h.cell hc (by simp)
theorem kept_frozen {w W : World} (h : w.grownBy W none) {a : Addr} {v : Value} (hc : w.cell? a = some v) (hf : w.frozen? a = false) : W.frozen? a = false := by
  rw [World.frozen?_of_block (h.block a.block (World.block_lt_of_cell? w a hc) (by simp))]
  exact hf
/-- Where a fault is. -/
theorem at_any (x y : Int) (w : World) :
    Calls Tryz.prog 144 #[.agg #[.int .i64 x, .int .i64 y]] w fun e w' => e = .returned (.int .i64 x) ∧ w' = w.alloc (.cells #[.int .i64 x, .int .i64 y] 168) := by
  go_enter Tryz.func144, Tryz.ntmps144
  go_wp2_with fail
  go_ret
  exact ⟨rfl, rfl⟩
set_option maxRecDepth 100000 in
set_option maxHeartbeats 1000000 in
/-- rlp.Why of nothing wrong. -/
theorem why_nil (w : World) :
    Calls Tryz.prog 97 #[.nilIface] w fun e w' => e = .returned (.tuple #[.int .i64 (-1), .int .i64 0]) ∧ Below w.heap.size w w' := by
  go_enter Tryz.func97, Tryz.ntmps97
  go_wp2_with fail
  refine (as_nil _ _).mono ?_
  rintro e w1 ⟨rfl, rfl⟩
  go_wp2_with fail
  refine (as_nil _ _).mono ?_
  rintro e w1 ⟨rfl, rfl⟩
  go_wp2_with fail
  go_quiet (fail)
  go_wp2_with fail
  go_returns
  exact ⟨rfl, below_drewN (((Below.refl _ _).alloc (Nat.le_refl _) _).alloc (by simp) _) _⟩
set_option maxRecDepth 100000 in
set_option maxHeartbeats 1000000 in
/-- rlp.Why of a fault. -/
theorem why_fault (x y : Int) (w : World) (hg : w.cell? ⟨0, 0, none⟩ = some (rt 94)) :
    Calls Tryz.prog 97 #[.iface 168 (.agg #[.int .i64 x, .int .i64 y])] w fun e w' => e = .returned (.tuple #[.int .i64 x, .int .i64 y]) ∧ Below w.heap.size w w' := by
  have hlt : 0 < w.heap.size := World.block_lt_of_cell? w ⟨0, 0, none⟩ hg
  have HG := Lib.hid hg
  clear hg
  go_enter Tryz.func97, Tryz.ntmps97
  go_wp2_with fail
  have h2 : 0 < ((w.alloc (.cells #[.int .i64 0] 24)).alloc (.cells #[.nilIface] 171)).heap.size := by simp <;> omega
  refine (as_fault_place x y (w.heap.size + 1) .nilIface _ (by rw [World.cell?_alloc_at _ _ _ _ (by simp)]; rfl) (World.frozen?_alloc_at _ _ _ _ (by simp))).mono ?_
  rintro e w1 ⟨rfl, W1, g1, rfl⟩
  have bel1 : Below w.heap.size w W1 := Below.grownNone (((Below.refl _ _).alloc (Nat.le_refl _) _).alloc (by simp) _) (by simp <;> omega) g1
  have hW : w.heap.size + 1 < W1.heap.size := by have := g1.size; simp at this; omega
  have c5 : W1.cell? ⟨w.heap.size, 0, none⟩ = some (.int .i64 0) := kept_cell g1 (by rw [World.cell?_alloc_lt _ _ ⟨w.heap.size, 0, none⟩ (by simp), World.cell?_alloc_new]; rfl)
  have f5 : W1.frozen? ⟨w.heap.size, 0, none⟩ = false := kept_frozen g1 (v := .int .i64 0) (by rw [World.cell?_alloc_lt _ _ ⟨w.heap.size, 0, none⟩ (by simp), World.cell?_alloc_new]; rfl) (by rw [World.frozen?_alloc_past _ _ _ (by simp)]; exact World.frozen?_alloc_at _ _ _ _ rfl)
  have c6 : ∃ v, W1.cell? ⟨w.heap.size + 1, 0, none⟩ = some v := ⟨_, kept_cell g1 (v := .nilIface) (by rw [World.cell?_alloc_at _ _ _ _ (by simp)]; rfl)⟩
  have c2 : W1.cell? ⟨0, 0, none⟩ = some (rt 94) := kept_cell g1 (by rw [World.cell?_alloc_lt _ _ ⟨0, 0, none⟩ (by simp <;> omega), World.cell?_alloc_lt _ _ ⟨0, 0, none⟩ hlt]; exact HG.out)
  obtain ⟨v6, c6⟩ := c6
  obtain ⟨w1, hw1⟩ : ∃ w1, w1 = W1.setCell ⟨w.heap.size + 1, 0, none⟩ (.iface 168 (.agg #[.int .i64 x, .int .i64 y])) := ⟨_, rfl⟩
  have d6 : w1.cell? ⟨w.heap.size + 1, 0, none⟩ = some (.iface 168 (.agg #[.int .i64 x, .int .i64 y])) := by rw [hw1]; exact World.cell?_setCell_same _ _ _ c6
  have d5 : w1.cell? ⟨w.heap.size, 0, none⟩ = some (.int .i64 0) := by rw [hw1, World.cell?_setCell_far _ _ _ _ (by simp)]; exact c5
  have e5 : w1.frozen? ⟨w.heap.size, 0, none⟩ = false := by rw [hw1, World.frozen?_setCell]; exact f5
  have d2 : w1.cell? ⟨0, 0, none⟩ = some (rt 94) := by rw [hw1, World.cell?_setCell_far _ _ _ _ (by simp <;> omega)]; exact c2
  have bel : Below w.heap.size w w1 := by rw [hw1]; exact bel1.setCell (by simp) _
  rw [← hw1]
  have HD2 := Lib.hid d2
  have HD5 := Lib.hid d5
  have HE5 := Lib.hid e5
  have HBL := Lib.hid bel
  have hsz : w.heap.size + 1 < w1.heap.size := by rw [hw1]; simpa using hW
  clear hw1 d2 d5 e5 bel c2 c6 f5 c5 bel1 g1 hW h2
  have mA := As.mAt
  go_wp2_with fail
  refine (at_any x y w1).mono ?_
  rintro e w2 ⟨rfl, hw2⟩
  obtain ⟨W2, hW2⟩ : ∃ W2, W2 = w2 := ⟨_, rfl⟩
  have g2 : w1.grownBy w2 none := by rw [hw2]; exact World.grownBy_alloc _ _ _
  have bel2 : Below w.heap.size w w2 := Below.grownNone HBL.out (by omega) g2
  have m5 : w2.cell? ⟨w.heap.size, 0, none⟩ = some (.int .i64 0) := kept_cell g2 HD5.out
  have mf5 : w2.frozen? ⟨w.heap.size, 0, none⟩ = false := kept_frozen g2 HD5.out HE5.out
  have m2 : w2.cell? ⟨0, 0, none⟩ = some (rt 94) := kept_cell g2 HD2.out
  have hs2 : w.heap.size + 1 < w2.heap.size := Nat.lt_of_lt_of_le hsz g2.size
  have HM5 := Lib.hid m5
  have HF5 := Lib.hid mf5
  have HM2 := Lib.hid m2
  have HB2 := Lib.hid bel2
  clear hw2 g2 bel2 m5 mf5 m2 hW2 mA
  go_wp2_with fail
  refine (as_fault_number x y w.heap.size (.int .i64 0) w2 HM2.out HM5.out HF5.out).mono ?_
  rintro e w3 ⟨rfl, W3, g3, rfl⟩
  have bel3 : Below w.heap.size w (W3.setCell ⟨w.heap.size, 0, none⟩ (.int .i64 y)) := (Below.grownNone HB2.out (by omega) g3).setCell (Nat.le_refl _) _
  have hc : (W3.setCell ⟨w.heap.size, 0, none⟩ (.int .i64 y)).cell? ⟨w.heap.size, 0, none⟩ = some (.int .i64 y) := World.cell?_setCell_same _ _ _ (kept_cell g3 HM5.out)
  obtain ⟨w3, hw3⟩ : ∃ w3, w3 = W3.setCell ⟨w.heap.size, 0, none⟩ (.int .i64 y) := ⟨_, rfl⟩
  rw [← hw3] at bel3 hc ⊢
  have HB3 := Lib.hid bel3
  clear hw3 bel3 g3
  go_wp2_with fail
  go_quiet (fail)
  go_wp2_with fail
  go_returns
  exact ⟨rfl, below_drewN HB3.out _⟩
set_option maxRecDepth 100000 in
set_option maxHeartbeats 1000000 in
/-- rlp.Why of a number. -/
theorem why_errno (n : Int) (w : World) (hg : w.cell? ⟨0, 0, none⟩ = some (rt 94)) :
    Calls Tryz.prog 97 #[.iface 24 (.int .i64 n)] w fun e w' => e = .returned (.tuple #[.int .i64 (-1), .int .i64 n]) ∧ Below w.heap.size w w' := by
  have hlt : 0 < w.heap.size := World.block_lt_of_cell? w ⟨0, 0, none⟩ hg
  have HG := Lib.hid hg
  clear hg
  go_enter Tryz.func97, Tryz.ntmps97
  go_wp2_with fail
  refine (as_errno_place n (w.heap.size + 1) .nilIface _ (by rw [World.cell?_alloc_at _ _ _ _ (by simp)]; rfl) (World.frozen?_alloc_at _ _ _ _ (by simp))).mono ?_
  rintro e w1 ⟨rfl, g1⟩
  have bel1 : Below w.heap.size w w1 := Below.grownNone (((Below.refl _ _).alloc (Nat.le_refl _) _).alloc (by simp) _) (by simp <;> omega) g1
  have hW : w.heap.size + 1 < w1.heap.size := by have := g1.size; simp at this; omega
  have c5 : w1.cell? ⟨w.heap.size, 0, none⟩ = some (.int .i64 0) := kept_cell g1 (by rw [World.cell?_alloc_lt _ _ ⟨w.heap.size, 0, none⟩ (by simp), World.cell?_alloc_new]; rfl)
  have f5 : w1.frozen? ⟨w.heap.size, 0, none⟩ = false := kept_frozen g1 (v := .int .i64 0) (by rw [World.cell?_alloc_lt _ _ ⟨w.heap.size, 0, none⟩ (by simp), World.cell?_alloc_new]; rfl) (by rw [World.frozen?_alloc_past _ _ _ (by simp)]; exact World.frozen?_alloc_at _ _ _ _ rfl)
  have c2 : w1.cell? ⟨0, 0, none⟩ = some (rt 94) := kept_cell g1 (by rw [World.cell?_alloc_lt _ _ ⟨0, 0, none⟩ (by simp <;> omega), World.cell?_alloc_lt _ _ ⟨0, 0, none⟩ hlt]; exact HG.out)
  have HC5 := Lib.hid c5
  have HF5 := Lib.hid f5
  have HC2 := Lib.hid c2
  have HB1 := Lib.hid bel1
  clear bel1 c5 f5 c2 g1
  go_wp2_with fail
  refine (as_errno_number n w.heap.size (.int .i64 0) w1 HC2.out HC5.out HF5.out).mono ?_
  rintro e w3 ⟨rfl, W3, g3, rfl⟩
  have bel3 : Below w.heap.size w (W3.setCell ⟨w.heap.size, 0, none⟩ (.int .i64 n)) := (Below.grownNone HB1.out (by omega) g3).setCell (Nat.le_refl _) _
  have hc : (W3.setCell ⟨w.heap.size, 0, none⟩ (.int .i64 n)).cell? ⟨w.heap.size, 0, none⟩ = some (.int .i64 n) := World.cell?_setCell_same _ _ _ (kept_cell g3 HC5.out)
  obtain ⟨w3, hw3⟩ : ∃ w3, w3 = W3.setCell ⟨w.heap.size, 0, none⟩ (.int .i64 n) := ⟨_, rfl⟩
  rw [← hw3] at bel3 hc ⊢
  have HB3 := Lib.hid bel3
  clear hw3 bel3 g3
  go_wp2_with fail
  go_quiet (fail)
  go_wp2_with fail
  go_returns
  exact ⟨rfl, below_drewN HB3.out _⟩
end Go.Proofs.YtlbebdkockejcaaGreatDoor
