/-
  Whether two replies, two notices, are the same: the document's SameReply, SameNotice.
-/
import Derived.Test.YtlbebdkockejcaaGreatDoorFrmRep
import Derived.Test.YtlbebdkockejcaaGreatDoorFrmNtc
import Derived.Test.YtlbebdkockejcaaGreatDoorMdlRefEq
namespace Go.Proofs.YtlbebdkockejcaaGreatDoor
open Go.RowKit Go.Proofs.Frm Go.Proofs.Mdl
set_option linter.unusedVariables false
set_option linter.unusedSimpArgs false
set_option maxRecDepth 100000 in
set_option maxHeartbeats 4000000 in
/-- SameReply. -/
theorem sameR_any {w : World} {va vb : Value} {a b : Frm.Rep} (h1 : Es w va a.entries) (h2 : Es w vb b.entries) (hl : a.entries.length ≤ 1000) :
    Calls Tryz.prog 25 #[.agg (cellR a va).toArray, .agg (cellR b vb).toArray] w fun e w' => e = .returned (.bool (decide (a = b))) ∧ Below w.heap.size w w' := by
  obtain ⟨x1, x2, x3, x4, x5, lx, x7, x8⟩ := a
  obtain ⟨y1, y2, y3, y4, y5, ly, y7, y8⟩ := b
  unfold cellR
  simp only at h1 h2 hl ⊢
  obtain ⟨A1, c1, rfl⟩ := h1.shape
  obtain ⟨A2, c2, rfl⟩ := h2.shape
  have SE := Lib.hid (fun W (hW : Below w.heap.size w W) => sameE_any (h1.below hW) (h2.below hW) hl)
  have HT5 : Hid (x5.toList = y5.toList ↔ x5 = y5) := Lib.hid tl_iff
  have HT7 : Hid (x7.toList = y7.toList ↔ x7 = y7) := Lib.hid tl_iff
  clear h1 h2 hl
  obtain ⟨bq, hbq⟩ : ∃ bq, decide (lx = ly) = bq := ⟨_, rfl⟩
  have HQ : Hid (lx = ly ↔ bq = true) := Lib.hid (by rw [← hbq, decide_eq_true_iff])
  rw [hbq] at SE
  clear hbq
  go_enter Tryz.func25, Tryz.ntmps25
  go_wp2_with (first
    | (go_at_call 55; refine (SE.out _ (((Below.refl _ _).alloc (Nat.le_refl _) _).alloc (by simp) _)).mono ?_; rintro e w1 ⟨rfl, hb⟩; have B1 := Lib.hid hb; clear hb))
  all_goals go_ret
  all_goals refine ⟨congrArg (fun b => Ending.returned (Value.bool b)) (?_ : (_ : Bool) = _), ?_⟩
  all_goals first
    | exact (((Below.refl _ _).alloc (Nat.le_refl _) _).alloc (by simp) _).trans (B1.out.mono (by simp; omega))
    | exact ((Below.refl _ _).alloc (Nat.le_refl _) _).alloc (by simp) _
    | (have h5 := HT5.out; have h7 := HT7.out; have hq := HQ.out; clear SE HT5 HT7 HQ; rw [Bool.eq_iff_iff, decide_eq_true_iff]; simp only [Rep.mk.injEq, hq, ← h5, ← h7]; simp [*])
set_option maxRecDepth 100000 in
set_option maxHeartbeats 4000000 in
/-- SameNotice. -/
theorem sameN_any {w : World} {va vb : Value} {a b : Frm.Ntc} (h1 : Cs w va a.changes) (h2 : Cs w vb b.changes) (hl : a.changes.length ≤ 1000) :
    Calls Tryz.prog 26 #[.agg (cellN a va).toArray, .agg (cellN b vb).toArray] w fun e w' => e = .returned (.bool (decide (a = b))) ∧ Below w.heap.size w w' := by
  obtain ⟨x1, x2, x3, x5, lx⟩ := a
  obtain ⟨y1, y2, y3, y5, ly⟩ := b
  unfold cellN
  simp only at h1 h2 hl ⊢
  obtain ⟨A1, c1, rfl⟩ := h1.shape
  obtain ⟨A2, c2, rfl⟩ := h2.shape
  have SE := Lib.hid (fun W (hW : Below w.heap.size w W) => sameC_any (h1.below hW) (h2.below hW) hl)
  have HT5 : Hid (x5.toList = y5.toList ↔ x5 = y5) := Lib.hid tl_iff
  clear h1 h2 hl
  obtain ⟨bq, hbq⟩ : ∃ bq, decide (lx = ly) = bq := ⟨_, rfl⟩
  have HQ : Hid (lx = ly ↔ bq = true) := Lib.hid (by rw [← hbq, decide_eq_true_iff])
  rw [hbq] at SE
  clear hbq
  go_enter Tryz.func26, Tryz.ntmps26
  go_wp2_with (first
    | (go_at_call 56; refine (SE.out _ (((Below.refl _ _).alloc (Nat.le_refl _) _).alloc (by simp) _)).mono ?_; rintro e w1 ⟨rfl, hb⟩; have B1 := Lib.hid hb; clear hb))
  all_goals go_ret
  all_goals refine ⟨congrArg (fun b => Ending.returned (Value.bool b)) (?_ : (_ : Bool) = _), ?_⟩
  all_goals first
    | exact (((Below.refl _ _).alloc (Nat.le_refl _) _).alloc (by simp) _).trans (B1.out.mono (by simp; omega))
    | exact ((Below.refl _ _).alloc (Nat.le_refl _) _).alloc (by simp) _
    | (have h5 := HT5.out; have hq := HQ.out; clear SE HT5 HQ; rw [Bool.eq_iff_iff, decide_eq_true_iff]; simp only [Ntc.mk.injEq, hq, ← h5]; simp [*])
end Go.Proofs.YtlbebdkockejcaaGreatDoor
