/-
  Merged: MdlCheck, MdlDif.
-/
import Derived.Test.YtlbebdkockejcaaGreatDoorGaMdA
import Derived.Test.YtlbebdkockejcaaGreatDoorGaRun
import Derived.Deep.Cut
import Derived.Deep.RegionHeld3
namespace Go.Proofs.Mdl
theorem adj_bad {l : List Ent} {k : Nat} {x : Ent} (hx : l[k]? = some x) (h : ¬ (entOk x = true ∧ ∀ i (y : Ent), k = i + 1 → l[i]? = some y → ltB y.k x.k = true)) : adj l = false := by
  rw [Bool.eq_false_iff]
  intro ha
  exact h ((adj_iff l).1 ha k x hx)
end Go.Proofs.Mdl
namespace Go.Proofs.YtlbebdkockejcaaGreatDoor
open Go.RowKit Go.Proofs.Mdl
set_option linter.unusedVariables false
set_option linter.unusedSimpArgs false
theorem sizeEnt (W : World) : (sizeOf 52).run Tryz.prog W = .ok 2 W := by kernel_rfl
theorem sizeChg (W : World) : (sizeOf 54).run Tryz.prog W = .ok 3 W := by kernel_rfl
theorem run_predF {o : Oper} {a : Act} {W : World} {x y : Operand} (ho : o.op = .binOp .sub 3 x y 3) (l m : Nat) (hx : a.eval x = .int .i64 (l : Int)) (hy : a.eval y = .int .i64 1) (hl : l = m + 1) (hm : l ≤ 9223372036854775807) :
    (execOp a.eval o).run Tryz.prog W = .ok (.value (.int .i64 (m : Int))) W := by
  unfold execOp
  simp only [ho, hx, hy]
  have h : (IntKind.i64.wrap ((l : Int) - 1)) = (m : Int) := by
    rw [show (l : Int) - 1 = (m : Int) by omega]
    exact IntWalk.i64_in _ (by omega)
  simp [go_sem, h]
end Go.Proofs.YtlbebdkockejcaaGreatDoor
namespace Go.Proofs.Mdl
theorem checkN_cases (l : List Ent) : checkN l = 0 ∨ checkN l = 1 ∨ checkN l = 12 := by
  unfold checkN
  split
  · split
    · exact .inr (.inr rfl)
    · exact .inl rfl
  · exact .inr (.inl rfl)
theorem diffM_no {a b : List Ent} (h : ¬ checkN a = 0 ∨ ¬ checkN b = 0) : diffM a b = [] := by
  unfold diffM
  rw [if_neg (fun e => by rcases h with h | h; exact h e.1; exact h e.2)]
end Go.Proofs.Mdl
namespace Go.Proofs.YtlbebdkockejcaaGreatDoor
open Go.RowKit Go.Proofs.Mdl
set_option linter.unusedVariables false
set_option linter.unusedSimpArgs false
def slLen : Value → Nat
  | .slice _ n _ => n
  | _ => 0
theorem elemChg : Tryz.prog.underlying 28 = some (.slice 54) := by kernel_rfl
theorem infoChg : (Tryz.prog.info? 54).map (fun i => (i.zero, i.size, i.bytes)) = some (some (.agg #[.string ⟨#[]⟩, .string ⟨#[]⟩, .bool false]), 3, 40) := by kernel_rfl
theorem elemEnt : Tryz.prog.underlying 25 = some (.slice 52) := by kernel_rfl
theorem elemEntP : Tryz.prog.underlying 25 = some (.slice (Tryz.prog.elem 25)) := by kernel_rfl
theorem sizeEntP (W : World) : (sizeOf (Tryz.prog.elem 25)).run Tryz.prog W = .ok 2 W := by kernel_rfl
theorem ent_low (b o m cap l : Nat) (hl : l ≤ m) (W : World) : (Instr.slice 25 (.slice (some ⟨b, o, none⟩) m cap) (some (.int .i64 (l : Int))) none none).run Tryz.prog W = .ok (.slice (if cap = l then some ⟨b, o, none⟩ else some ⟨b, o + l * 2, none⟩) (m - l) (cap - l)) W := by
  rw [run_slice_l W 25 (some ⟨b, o, none⟩) m cap elemEntP .i64 (l : Int) (by omega) (by omega), sizeEntP]
  simp only [Result.andThen, sliced, Int.toNat_natCast, Option.map_some, Addr.add_mid]
/-- l[1:] of entries. -/
theorem Es.tail {w : World} {b o n c : Nat} {e : Ent} {l : List Ent} (h : Es w (.slice (some ⟨b, o, none⟩) n c) (e :: l)) : ∃ A, (∀ W : World, (Instr.slice 25 (.slice (some ⟨b, o, none⟩) (l.length + 1) c) (some (.int .i64 1)) none none).run Tryz.prog W = .ok (.slice A l.length (c - 1)) W) ∧ Es w (.slice A l.length (c - 1)) l := by
  obtain ⟨h1, h2, h3⟩ := h.vs
  have h2' : l.length + 1 ≤ c := h2
  have hr := fun W => ent_low b o (l.length + 1) c 1 (by omega) W
  by_cases hc : c = 1
  · subst hc
    have h0 : l.length = 0 := by omega
    have : l = [] := List.length_eq_zero_iff.1 h0
    subst this
    exact ⟨some ⟨b, o, none⟩, fun W => hr W, ⟨_, _, rfl, Nat.zero_le _, .inl rfl⟩⟩
  · refine ⟨some ⟨b, o + 1 * 2, none⟩, fun W => by have := hr W; rw [if_neg hc] at this; exact this, ⟨_, _, rfl, by omega, ?_⟩⟩
    rcases h3 with h3 | ⟨b', o', e', hb, hcl⟩
    · cases h3
    · cases e'
      refine .inr ⟨b, o + 1 * 2, rfl, hb, fun j x hj => ?_⟩
      have := hcl (2 + j) x (by rw [flatE_cons, List.getElem?_append_right (by simp [cellE])]; simpa [cellE] using hj)
      rwa [show o + 1 * 2 + j = o + (2 + j) by omega]
theorem run_slice1 {o : Oper} {a : Act} {W : World} {x : Operand} (ho : o.op = .slice 25 x (some (.const (.int .i64 1))) none none) (v v' : Value) (hx : a.eval x = v) (h : (Instr.slice 25 v (some (.int .i64 1)) none none).run Tryz.prog W = .ok v' W) :
    (execOp a.eval o).run Tryz.prog W = .ok (.value v') W := by
  have h2 : (Instr.sliceAt 25 v (some (.int .i64 1)) none none).run Tryz.prog W = .ok v' W := by rw [run_sliceAt_slice (h := elemEntP)]; exact h
  have h3 : a.eval (.const (.int .i64 1)) = .int .i64 1 := rfl
  unfold execOp
  simp only [ho, hx, Option.map_some, Option.map_none, h3, Sem.run_bind, Sem.run_pure, h2, Result.andThen_ok]
theorem ix0 {o : Oper} {a : Act} {W : World} {x y : Operand} (b oo n c : Nat) (ho : o.op = .indexAddr 25 x y) (hx : a.eval x = .slice (some ⟨b, oo, none⟩) n c) (hy : a.eval y = .int .i64 0) (hi : 0 < n) :
    (execOp a.eval o).run Tryz.prog W = .ok (.value (.pointer (some ⟨b, oo, none⟩))) W := by
  have := run_indexK (W := W) elemEnt sizeEnt ho b oo n c 0 hx hy hi
  simpa using this
end Go.Proofs.YtlbebdkockejcaaGreatDoor
