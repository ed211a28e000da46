import Derived.Test.YtgeonbkoihegnaaDoorRlpFst
import Derived.LaidEql
import Derived.Stop.Asserts
import Derived.RowKitTokens
namespace Go.Proofs.YtgeonbkoihegnaaDoor
open Go.RowKit Go.Extern.Stop Go.Stop Go.Extern
/-- The handle of a type. -/
abbrev hd (t : Nat) : Value := .pointer (some ⟨4, t, none⟩)
abbrev rt (t : Nat) : Value := .iface 103 (.agg #[hd t])
abbrev rv (t : Nat) (a : Addr) (f : Int) : Value := .agg #[hd t, .pointer (some a), .int .u64 f]
/-- errors.As(nil, target). -/
theorem as_nil (t : Value) (w : World) :
    Calls Tryd.prog 37 #[.nilIface, t] w fun e w' => e = .returned (.bool false) ∧ w = w' := by
  go_enter Tryd.func37, Tryd.ntmps37
  go_wp2_with fail
  go_ret
  exact ⟨rfl, rfl⟩
theorem As.rlm (z : Sem Value) (f : TypeId → Addr → Nat → Nat → Sem Value) (v : Value) :
    ReflectliteValue.method z f #[v] = (do match ← ReflectliteValue.parts v with | none => z | some (t, a, fl) => f t a fl (fl % 32)) := rfl
theorem As.rls (v x : Value) : ReflectliteValue.set #[v, x] = (do
    let (some (dst, a, fl), some (src, b, _)) := (← ReflectliteValue.parts v, ← ReflectliteValue.parts x)
      | unsupported (.noEntry "extern/(internal/reflectlite.Value).Set.zeroValue")
    if fl / ReflectliteValue.flagAddr % 2 == 0 then unsupported (.noEntry "extern/(internal/reflectlite.Value).Set.unaddressable")
    let val ← loadVar src b
    if ← Rtype.directlyAssignable dst src then storeVar dst a val
    else if ← Rtype.implements dst src then
      if (← Rtype.kind src) == 20 then
        match val with
        | .nilIface => unsupported (.noEntry "extern/reflectlite: a nil value of one interface type handed on as a value of another")
        | _ => storeVar dst a val
      else storeVar dst a (.iface src val)
    else panicString ("reflectlite.Set: value of type " ++ (← Rtype.spelt src) ++ " is not assignable to type " ++ (← Rtype.spelt dst))
    pure (.tuple #[])) := rfl
theorem As.mKind (h : Value) (w : World) : (Go.method 220 103 (.agg #[h]) "Kind").run Tryd.prog w = .ok (72, h) w := by kernel_rfl
theorem As.mElem (h : Value) (w : World) : (Go.method 220 103 (.agg #[h]) "Elem").run Tryd.prog w = .ok (86, .agg #[h]) w := by kernel_rfl
theorem As.mImplements (h : Value) (w : World) : (Go.method 220 103 (.agg #[h]) "Implements").run Tryd.prog w = .ok (87, .agg #[h]) w := by kernel_rfl
theorem As.mAssignableTo (h : Value) (w : World) : (Go.method 220 103 (.agg #[h]) "AssignableTo").run Tryd.prog w = .ok (84, .agg #[h]) w := by kernel_rfl
theorem As.mComparable (h : Value) (w : World) : (Go.method 220 103 (.agg #[h]) "Comparable").run Tryd.prog w = .ok (85, .agg #[h]) w := by kernel_rfl
theorem As.mUnwrap (h : Value) (w : World) : (Go.method 220 76 h "Unwrap").run Tryd.prog w = .ok (78, h) w := by kernel_rfl
theorem As.mAt (h : Value) (w : World) : (Go.method 220 76 h "At").run Tryd.prog w = .ok (76, h) w := by kernel_rfl

theorem As.valueOf72 (t : Addr) (w : World) : (ReflectliteValue.unpack (.iface 72 (.pointer (some t)))).run Tryd.prog w = .ok (rv 72 ⟨w.heap.size, 0, none⟩ 150) (w.alloc (.cells #[.pointer (some t)] 72)) := by kernel_rfl
theorem As.type72 (a : Addr) (w : World) : (ReflectliteValue.methodAny (ReflectliteValue.valueError "reflectlite.Value.Type" 0) (fun t _ _ _ => ReflectliteType.toType t) #[rv 72 a 150]).run Tryd.prog w = .ok (rt 72) w := by kernel_rfl
theorem As.kind72 (w : World) : ((ReflectliteType.abiMethod fun t => (fun a : Nat => Value.int IntKind.u8 (a : Int)) <$> Rtype.kind t) #[hd 72]).run Tryd.prog w = .ok (.int .u8 22) w := by kernel_rfl
theorem As.kind70 (w : World) : ((ReflectliteType.abiMethod fun t => (fun a : Nat => Value.int IntKind.u8 (a : Int)) <$> Rtype.kind t) #[hd 70]).run Tryd.prog w = .ok (.int .u8 20) w := by kernel_rfl
theorem As.parts72 (a : Addr) (w : World) : (ReflectliteValue.parts (rv 72 a 150)).run Tryd.prog w = .ok (some (72, a, 150)) w := by kernel_rfl
theorem As.isNil72 (a p : Addr) (W : World) (ha : W.cell? a = some (.pointer (some p))) :
    (ReflectliteValue.method (ReflectliteValue.valueError "reflectlite.Value.IsNil" 0) ReflectliteValue.isNil #[rv 72 a 150]).run Tryd.prog W = .ok (.bool false) W := by
  rw [As.rlm]
  simp only [Sem.run_bind, As.parts72, Result.andThen]
  simp [ReflectliteValue.isNil, loadVar, isAgg, underlying, Tryd.underlying72, ha, Result.andThen]
theorem As.elem72 (w : World) : (ReflectliteType.method ReflectliteType.elem #[.agg #[hd 72]]).run Tryd.prog w = .ok (rt 70) w := by kernel_rfl
theorem As.elemOf72 (w : World) : (Rtype.elem? 72).run Tryd.prog w = .ok (some 70) w := by kernel_rfl
theorem As.mk70 (p : Addr) (w : World) : (ReflectliteValue.mk 70 p ReflectliteValue.flagAddr).run Tryd.prog w = .ok (rv 70 p 404) w := by kernel_rfl
theorem As.elemV72 (a p : Addr) (W : World) (ha : W.cell? a = some (.pointer (some p))) :
    (ReflectliteValue.method (ReflectliteValue.valueError "reflectlite.Value.Elem" 0) ReflectliteValue.elem #[rv 72 a 150]).run Tryd.prog W = .ok (rv 70 p 404) W := by
  rw [As.rlm]
  simp only [Sem.run_bind, As.parts72, Result.andThen]
  simp [ReflectliteValue.elem, loadVar, isAgg, underlying, Tryd.underlying72, ha, Result.andThen, As.elemOf72, As.mk70]
theorem As.partsE70 (a : Addr) (w : World) : (ReflectliteValue.parts (rv 70 a 404)).run Tryd.prog w = .ok (some (70, a, 404)) w := by kernel_rfl

theorem As.valueOf74 (t : Addr) (w : World) : (ReflectliteValue.unpack (.iface 74 (.pointer (some t)))).run Tryd.prog w = .ok (rv 74 ⟨w.heap.size, 0, none⟩ 150) (w.alloc (.cells #[.pointer (some t)] 74)) := by kernel_rfl
theorem As.type74 (a : Addr) (w : World) : (ReflectliteValue.methodAny (ReflectliteValue.valueError "reflectlite.Value.Type" 0) (fun t _ _ _ => ReflectliteType.toType t) #[rv 74 a 150]).run Tryd.prog w = .ok (rt 74) w := by kernel_rfl
theorem As.kind74 (w : World) : ((ReflectliteType.abiMethod fun t => (fun a : Nat => Value.int IntKind.u8 (a : Int)) <$> Rtype.kind t) #[hd 74]).run Tryd.prog w = .ok (.int .u8 22) w := by kernel_rfl
theorem As.kind24 (w : World) : ((ReflectliteType.abiMethod fun t => (fun a : Nat => Value.int IntKind.u8 (a : Int)) <$> Rtype.kind t) #[hd 24]).run Tryd.prog w = .ok (.int .u8 2) w := by kernel_rfl
theorem As.parts74 (a : Addr) (w : World) : (ReflectliteValue.parts (rv 74 a 150)).run Tryd.prog w = .ok (some (74, a, 150)) w := by kernel_rfl
theorem As.isNil74 (a p : Addr) (W : World) (ha : W.cell? a = some (.pointer (some p))) :
    (ReflectliteValue.method (ReflectliteValue.valueError "reflectlite.Value.IsNil" 0) ReflectliteValue.isNil #[rv 74 a 150]).run Tryd.prog W = .ok (.bool false) W := by
  rw [As.rlm]
  simp only [Sem.run_bind, As.parts74, Result.andThen]
  simp [ReflectliteValue.isNil, loadVar, isAgg, underlying, Tryd.underlying74, ha, Result.andThen]
theorem As.elem74 (w : World) : (ReflectliteType.method ReflectliteType.elem #[.agg #[hd 74]]).run Tryd.prog w = .ok (rt 24) w := by kernel_rfl
theorem As.elemOf74 (w : World) : (Rtype.elem? 74).run Tryd.prog w = .ok (some 24) w := by kernel_rfl
theorem As.mk24 (p : Addr) (w : World) : (ReflectliteValue.mk 24 p ReflectliteValue.flagAddr).run Tryd.prog w = .ok (rv 24 p 386) w := by kernel_rfl
theorem As.elemV74 (a p : Addr) (W : World) (ha : W.cell? a = some (.pointer (some p))) :
    (ReflectliteValue.method (ReflectliteValue.valueError "reflectlite.Value.Elem" 0) ReflectliteValue.elem #[rv 74 a 150]).run Tryd.prog W = .ok (rv 24 p 386) W := by
  rw [As.rlm]
  simp only [Sem.run_bind, As.parts74, Result.andThen]
  simp [ReflectliteValue.elem, loadVar, isAgg, underlying, Tryd.underlying74, ha, Result.andThen, As.elemOf74, As.mk24]
theorem As.partsE24 (a : Addr) (w : World) : (ReflectliteValue.parts (rv 24 a 386)).run Tryd.prog w = .ok (some (24, a, 386)) w := by kernel_rfl

theorem As.implements24 (w : World) : (ReflectliteType.relation "Implements" ReflectliteType.implements_ #[.agg #[hd 24], rt 52]).run Tryd.prog w = .ok (.bool true) w := by kernel_rfl
theorem As.typeOf24 (v : Value) (w : World) : (ReflectliteType.typeOf #[.iface 24 v]).run Tryd.prog w = .ok (rt 24) w := by kernel_rfl
theorem As.typeOf76 (v : Value) (w : World) : (ReflectliteType.typeOf #[.iface 76 v]).run Tryd.prog w = .ok (rt 76) w := by kernel_rfl
theorem As.valueOf24 (n : Int) (w : World) : (ReflectliteValue.unpack (.iface 24 (.int .i64 n))).run Tryd.prog w = .ok (rv 24 ⟨w.heap.size, 0, none⟩ 130) (w.alloc (.cells #[.int .i64 n] 24)) := by kernel_rfl
theorem As.valueOf76 (x y : Int) (w : World) : (ReflectliteValue.unpack (.iface 76 (.agg #[.int .i64 x, .int .i64 y]))).run Tryd.prog w = .ok (rv 76 ⟨w.heap.size, 0, none⟩ 153) (w.alloc (.cells #[.int .i64 x, .int .i64 y] 76)) := by kernel_rfl
theorem As.parts24 (a : Addr) (w : World) : (ReflectliteValue.parts (rv 24 a 130)).run Tryd.prog w = .ok (some (24, a, 130)) w := by kernel_rfl
theorem As.parts76 (a : Addr) (w : World) : (ReflectliteValue.parts (rv 76 a 153)).run Tryd.prog w = .ok (some (76, a, 153)) w := by kernel_rfl
theorem As.direct24 (w : World) : (Rtype.directlyAssignable 24 24).run Tryd.prog w = .ok true w := by kernel_rfl
theorem As.direct76 (w : World) : (Rtype.directlyAssignable 70 76).run Tryd.prog w = .ok false w := by kernel_rfl
theorem As.impl76 (w : World) : (Rtype.implements 70 76).run Tryd.prog w = .ok true w := by kernel_rfl
theorem As.kindOf76 (w : World) : (Rtype.kind 76).run Tryd.prog w = .ok 25 w := by kernel_rfl

theorem As.assign76_70 (w : World) : (ReflectliteType.relation "AssignableTo" ReflectliteType.assignableTo #[.agg #[hd 76], rt 70]).run Tryd.prog w = .ok (.bool true) w := by kernel_rfl
theorem As.assign76_24 (w : World) : (ReflectliteType.relation "AssignableTo" ReflectliteType.assignableTo #[.agg #[hd 76], rt 24]).run Tryd.prog w = .ok (.bool false) w := by kernel_rfl
theorem As.assign24_24 (w : World) : (ReflectliteType.relation "AssignableTo" ReflectliteType.assignableTo #[.agg #[hd 24], rt 24]).run Tryd.prog w = .ok (.bool true) w := by kernel_rfl
theorem As.np24 (w : World) : (Rtype.noPackMethods "a method set held against an interface's list" 24).run Tryd.prog w = .ok () w := by kernel_rfl
theorem As.np70 (w : World) : (Rtype.noPackMethods "a method set held against an interface's list" 70).run Tryd.prog w = .ok () w := by kernel_rfl
theorem As.desc70 : (Tryd.prog.info? 70).map (·.desc) = some (.interface #[("At", 73)]) := by kernel_rfl
theorem As.desc3 : (Tryd.prog.info? 3).map (·.desc) = some (.int .i64) := by kernel_rfl
theorem As.desc24 : (Tryd.prog.info? 24).map (fun i => match i.desc with | .named _ u => u | _ => 0) = some 3 := by kernel_rfl
theorem As.lack24 : (Tryd.prog.info? 24).map (fun i => (lacking #[("At", 73)] i.methods).isEmpty) = some false := by kernel_rfl
theorem As.noimpl (w : World) : (Rtype.implements 70 24).run Tryd.prog w = .ok false w := by
  obtain ⟨i, hi, hl⟩ := Option.map_eq_some_iff.1 As.lack24
  obtain ⟨i', hi', hn⟩ := Option.map_eq_some_iff.1 As.desc24
  obtain rfl := Option.some.inj (hi.symm.trans hi')
  obtain ⟨j, hj, hd⟩ := Option.map_eq_some_iff.1 As.desc70
  obtain ⟨k, hk, hd3⟩ := Option.map_eq_some_iff.1 As.desc3
  have u24 : (Rtype.under 24).run Tryd.prog w = .ok (3, k) w := by
    rcases hdd : i.desc with _ | _ | _ <;> simp [hdd] at hn
    subst hn
    simp [Rtype.under, typeInfo, hi, hdd, hk]
  have u70 : (Rtype.under 70).run Tryd.prog w = .ok (70, j) w := by
    simp [Rtype.under, typeInfo, hj, hd]
  obtain ⟨m, hm⟩ := missingMethod_some (want := #[("At", 73)]) (got := i.methods) (fun e => by rw [e] at hl; cases hl)
  simp [Rtype.implements, As.np24, As.np70, u24, u70, Result.andThen, hd, hd3, typeInfo, hi, hm]
theorem As.np24a (w : World) : (Rtype.noPackMethods "AssignableTo" 24).run Tryd.prog w = .ok () w := by kernel_rfl
theorem As.np70a (w : World) : (Rtype.noPackMethods "AssignableTo" 70).run Tryd.prog w = .ok () w := by kernel_rfl
theorem As.direct24_70 (w : World) : (Rtype.directlyAssignable 70 24).run Tryd.prog w = .ok false w := by kernel_rfl
theorem As.ofR24 (w : World) : (ReflectliteType.ofRtype (.agg #[hd 24])).run Tryd.prog w = .ok 24 w := by kernel_rfl
theorem As.ofR70 (w : World) : (ReflectliteType.ofRtype (.agg #[hd 70])).run Tryd.prog w = .ok 70 w := by kernel_rfl
theorem As.rel (what : String) (f : TypeId → TypeId → Sem Bool) (r u : Value) (t : TypeId) : ReflectliteType.relation what f #[r, .iface t u] = (do pure (.bool (← f (← ReflectliteType.ofRtype u) (← ReflectliteType.ofRtype r)))) := rfl
theorem As.assign24_70 (w : World) : (ReflectliteType.relation "AssignableTo" ReflectliteType.assignableTo #[.agg #[hd 24], rt 70]).run Tryd.prog w = .ok (.bool false) w := by
  rw [As.rel]
  simp [ReflectliteType.assignableTo, As.ofR24, As.ofR70, As.np24a, As.np70a, As.direct24_70, As.noimpl, Result.andThen]

theorem As.noAs76 (v : Value) (xT : TypeId) (w : World) : (Instr.typeAssert (.iface 76 v) xT 116 true).run Tryd.prog w = .ok (.tuple #[.nilIface, .bool false]) w := run_typeAssert_lacksB Tryd.underlying116 (by kernel_rfl) (by kernel_rfl) v xT w
theorem As.noIs76 (v : Value) (xT : TypeId) (w : World) : (Instr.typeAssert (.iface 76 v) xT 105 true).run Tryd.prog w = .ok (.tuple #[.nilIface, .bool false]) w := run_typeAssert_lacksB Tryd.underlying105 (by kernel_rfl) (by kernel_rfl) v xT w
theorem As.noAs24 (v : Value) (xT : TypeId) (w : World) : (Instr.typeAssert (.iface 24 v) xT 116 true).run Tryd.prog w = .ok (.tuple #[.nilIface, .bool false]) w := run_typeAssert_lacksB Tryd.underlying116 (by kernel_rfl) (by kernel_rfl) v xT w
theorem As.noIs24 (v : Value) (xT : TypeId) (w : World) : (Instr.typeAssert (.iface 24 v) xT 105 true).run Tryd.prog w = .ok (.tuple #[.nilIface, .bool false]) w := run_typeAssert_lacksB Tryd.underlying105 (by kernel_rfl) (by kernel_rfl) v xT w
theorem As.unwrap76 (v : Value) (xT : TypeId) (w : World) : (Instr.typeAssert (.iface 76 v) xT 108 true).run Tryd.prog w = .ok (.tuple #[.iface 76 v, .bool true]) w := run_typeAssert_hasB Tryd.underlying108 (by kernel_rfl) v xT w
theorem As.unwrap24 (v : Value) (xT : TypeId) (w : World) : (Instr.typeAssert (.iface 24 v) xT 108 true).run Tryd.prog w = .ok (.tuple #[.nilIface, .bool false]) w := run_typeAssert_lacksB Tryd.underlying108 (by kernel_rfl) (by kernel_rfl) v xT w
theorem As.unwraps24 (v : Value) (xT : TypeId) (w : World) : (Instr.typeAssert (.iface 24 v) xT 110 true).run Tryd.prog w = .ok (.tuple #[.nilIface, .bool false]) w := run_typeAssert_lacksB Tryd.underlying110 (by kernel_rfl) (by kernel_rfl) v xT w
end Go.Proofs.YtgeonbkoihegnaaDoor
