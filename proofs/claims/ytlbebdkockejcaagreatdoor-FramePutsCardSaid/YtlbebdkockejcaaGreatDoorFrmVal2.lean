/-
  Package frame: whether a reply, and a notice, may be.
-/
import Derived.Test.YtlbebdkockejcaaGreatDoorFrmLg
import Derived.Test.YtlbebdkockejcaaGreatDoorFrmRep
import Derived.Test.YtlbebdkockejcaaGreatDoorFrmNtc
import Derived.Deep.Cut
import Derived.Deep.CutBlock
namespace Go.Proofs.YtlbebdkockejcaaGreatDoor
open Go.RowKit Go.Proofs.Frm Go.Proofs.Mdl
set_option linter.unusedVariables false
set_option linter.unusedSimpArgs false
theorem all_not_any {T : Type} (f : T → Bool) (l : List T) : l.all f = !l.any (fun x => !f x) := by
  induction l with
  | nil => rfl
  | cons x t ih => rw [List.all_cons, List.any_cons, ih]; simp
set_option maxRecDepth 100000 in
set_option maxHeartbeats 4000000 in
/-- ValidReply. -/
theorem validReply_any {w : World} {v : Value} {r : Frm.Rep} (h : Es w v r.entries) :
    Calls Tryz.prog 17 #[.agg (cellR r v).toArray] w fun e w' => e = .returned (.bool (validR r)) ∧ Below w.heap.size w w' := by
  obtain ⟨x1, x2, x3, x4, x5, l, x7, x8⟩ := r
  unfold cellR
  simp only at h ⊢
  obtain ⟨A, c, rfl⟩ := h.shape
  have WI := Lib.hid (fun n a b W => within_any n a b W)
  have RO := Lib.hid (fun s W => isRoot_any s W)
  have CO := Lib.hid (fun W (hW : Below w.heap.size w W) hl => containsE_any (h.below hW) hl)
  obtain ⟨z, hz⟩ : ∃ z, z = l.length := ⟨_, rfl⟩
  rw [← hz] at CO ⊢
  have HV : Hid (∀ b, l.any (fun x => !smallE x) = b → validR ⟨x1, x2, x3, x4, x5, l, x7, x8⟩ = (wi x1 0 1048576 && wi x2 0 1048576 && wi x4 0 1048576 && wi x3 0 12 && rootOk x5 && decide (x7.size ≤ 65536) && decide (z ≤ 8) && !b)) := Lib.hid (fun b hb => by
    unfold validR
    simp only [all_not_any, hb, hz])
  obtain ⟨la, hla⟩ : ∃ la, l.any (fun x => !smallE x) = la := ⟨_, rfl⟩
  rw [HV.out la hla]
  rw [hla] at CO
  clear h hz HV hla
  go_enter Tryz.func17, Tryz.ntmps17
  go_wp2_with (first
    | (go_at_call 38; refine (WI.out _ _ _ _).mono ?_; rintro e w1 ⟨rfl, rfl⟩)
    | (go_at_call 39; refine (RO.out _ _).mono ?_; rintro e w1 ⟨rfl, rfl⟩)
    | (go_at_call 40; refine (CO.out _ ((Below.refl _ _).alloc (Nat.le_refl _) _) (by omega)).mono ?_; rintro e w2 ⟨rfl, hb⟩; have B2 := Lib.hid hb; clear hb))
  all_goals go_ret
  all_goals refine ⟨congrArg (fun b => Ending.returned (Value.bool b)) (?_ : (_ : Bool) = _), ?_⟩
  all_goals first
    | exact ((Below.refl _ _).alloc (Nat.le_refl _) _).trans (B2.out.mono (by simp))
    | exact (Below.refl _ _).alloc (Nat.le_refl _) _
    | (clear WI RO CO; have hw3 : wi x3 0 12 = (decide (0 ≤ x3) && decide (x3 ≤ 12)) := rfl; cases la <;> simp [hw3, *] <;> omega)
set_option maxRecDepth 100000 in
set_option maxHeartbeats 4000000 in
/-- ValidNotice. -/
theorem validNotice_any {w : World} {v : Value} {r : Frm.Ntc} (h : Cs w v r.changes) :
    Calls Tryz.prog 18 #[.agg (cellN r v).toArray] w fun e w' => e = .returned (.bool (validN r)) ∧ Below w.heap.size w w' := by
  obtain ⟨x1, x2, x3, x4, l⟩ := r
  unfold cellN
  simp only at h ⊢
  obtain ⟨A, c, rfl⟩ := h.shape
  have WI := Lib.hid (fun n a b W => within_any n a b W)
  have RO := Lib.hid (fun s W => isRoot_any s W)
  have CO := Lib.hid (fun W (hW : Below w.heap.size w W) hl => containsC_any (h.below hW) hl)
  obtain ⟨z, hz⟩ : ∃ z, z = l.length := ⟨_, rfl⟩
  rw [← hz] at CO ⊢
  have HV : Hid (∀ b, l.any (fun x => !smallC x) = b → validN ⟨x1, x2, x3, x4, l⟩ = (wi x1 0 1048576 && wi x3 0 1048576 && (decide (x2 = 0) || decide (x2 = 11)) && rootOk x4 && decide (z ≤ 80) && !b)) := Lib.hid (fun b hb => by
    unfold validN
    simp only [all_not_any, hb, hz])
  obtain ⟨la, hla⟩ : ∃ la, l.any (fun x => !smallC x) = la := ⟨_, rfl⟩
  rw [HV.out la hla]
  rw [hla] at CO
  clear h hz HV hla
  go_enter Tryz.func18, Tryz.ntmps18
  go_wp2_with (first
    | (go_at_call 38; refine (WI.out _ _ _ _).mono ?_; rintro e w1 ⟨rfl, rfl⟩)
    | (go_at_call 39; refine (RO.out _ _).mono ?_; rintro e w1 ⟨rfl, rfl⟩)
    | (go_at_call 43; refine (CO.out _ ((Below.refl _ _).alloc (Nat.le_refl _) _) (by omega)).mono ?_; rintro e w2 ⟨rfl, hb⟩; have B2 := Lib.hid hb; clear hb))
  all_goals go_ret
  all_goals refine ⟨congrArg (fun b => Ending.returned (Value.bool b)) (?_ : (_ : Bool) = _), ?_⟩
  all_goals first
    | exact ((Below.refl _ _).alloc (Nat.le_refl _) _).trans (B2.out.mono (by simp))
    | exact (Below.refl _ _).alloc (Nat.le_refl _) _
    | (clear WI RO CO; cases la <;> simp [*] <;> omega)
end Go.Proofs.YtlbebdkockejcaaGreatDoor
