/-
  Package frame: whether one of some entries, of some changes, is too large (written by makers/frmlg.py).
-/
import Derived.Test.YtlbebdkockejcaaGreatDoorGaFrB
import Derived.Test.YtlbebdkockejcaaGreatDoorGaMdA
import Derived.LoopIn
import Derived.Handy
namespace Go.Proofs.YtlbebdkockejcaaGreatDoor
open Go.RowKit Go.Proofs.Frm Go.Proofs.Mdl
set_option linter.unusedVariables false
set_option linter.unusedSimpArgs false
theorem any_step {T : Type} (f : T → Bool) {l : List T} {k : Nat} {x : T} (h : l[k]? = some x) : (l.take (k + 1)).any f = ((l.take k).any f || f x) := by
  rw [List.take_add_one, h]
  simp
theorem any_of {T : Type} (f : T → Bool) {l : List T} {k : Nat} {x : T} (h : l[k]? = some x) (hf : f x = true) : l.any f = true := by
  rw [List.any_eq_true]
  exact ⟨x, List.mem_of_getElem? h, hf⟩
set_option maxRecDepth 100000 in
set_option maxHeartbeats 2000000 in
theorem lgE_any (x : Ent) (w : World) :
    Calls Tryz.prog 41 #[.agg #[.string x.k, .string x.v]] w fun e w' => e = .returned (.bool (!smallE x)) ∧ Below w.heap.size w w' := by
  have LG := Lib.hid (fun W => isLarge_any x.k x.v W)
  go_enter Tryz.func41, Tryz.ntmps41
  go_wp2_with (first
    | (go_at_call 42; refine (LG.out _).mono ?_; rintro e w1 ⟨rfl, rfl⟩))
  go_ret
  refine ⟨congrArg (fun b => Ending.returned (Value.bool b)) (?_ : (_ : Bool) = _), (Below.refl _ _).alloc (Nat.le_refl _) _⟩
  simp [smallE]
set_option maxRecDepth 100000 in
set_option maxHeartbeats 2000000 in
theorem indexE_any {w : World} {v : Value} {l : List Ent} (h : Es w v l) (hl : l.length ≤ 1000) :
    Calls Tryz.prog 63 #[v, .func (.func 41) #[] #[]] w fun e w' => ∃ j : Int, e = .returned (.int .i64 j) ∧ decide (0 ≤ j) = l.any (fun x => !smallE x) ∧ Below w.heap.size w w' := by
  obtain ⟨A, c, rfl⟩ := h.shape
  obtain ⟨z, hz⟩ : ∃ z, z = l.length := ⟨_, rfl⟩
  rw [← hz] at h ⊢
  have n1 : z ≤ 1000 := by omega
  have HE := Lib.hid h
  have HN := Lib.hid hz
  clear h hz hl
  go_enter Tryz.func63, Tryz.ntmps63
  go_wp2_with fail
  go_loopw [8] (fun vi wr => ∃ k : Nat, vi = .int .i64 (k : Int) ∧ k ≤ z ∧ Hid (Below w.heap.size w wr) ∧ Hid ((l.take k).any (fun x => !smallE x) = false)) (fun vi _ => z - (intOf vi).toNat)
  case atStart => exact ⟨0, rfl, Nat.zero_le _, Lib.hid (Below.refl _ _), Lib.hid rfl⟩
  case round =>
    obtain ⟨k, rfl, hk, HB, HA⟩ := hrel
    by_cases hlt : k < z
    · obtain ⟨x, hx⟩ : ∃ x, l[k]? = some x := ⟨_, List.getElem?_eq_getElem (by rw [← HN.out]; exact hlt)⟩
      obtain ⟨b, o, c', hv, hbl, d0, d1⟩ := (HE.out.below HB.out).at_ hx
      simp only [Value.slice.injEq] at hv
      obtain ⟨rfl, -, -⟩ := hv
      have LG := Lib.hid (fun W => lgE_any x W)
      have STEP := Lib.hid (any_step (fun x => !smallE x) hx)
      have ANY := Lib.hid (fun hf => any_of (fun x => !smallE x) hx hf)
      have i1 : (k : Int) < (z : Int) := by omega
      have wk : IntKind.i64.wrap ((k : Int) + 1) = (k : Int) + 1 := IntWalk.i64_in _ (by omega)
      obtain ⟨bq, hbq⟩ : ∃ bq, bq = !smallE x := ⟨_, rfl⟩
      rw [← hbq] at LG
      have HQ := Lib.hid hbq
      clear hx hbl hbq
      cases bq with
      | false =>
        go_wp2_with (first
          | (go_at_call 41; refine (LG.out _).mono ?_; rintro e w1 ⟨rfl, hb⟩; have B1 := Lib.hid hb; clear hb))
        refine ⟨⟨k + 1, rfl, hlt, Lib.hid (HB.out.trans (B1.out.mono HB.out.size)), Lib.hid ?_⟩, by simp [intOf]; omega⟩
        rw [STEP.out, HA.out, ← HQ.out]
        rfl
      | true =>
        go_wp2_with (first
          | (go_at_call 41; refine (LG.out _).mono ?_; rintro e w1 ⟨rfl, hb⟩; have B1 := Lib.hid hb; clear hb))
        go_ret
        refine ⟨_, rfl, ?_, HB.out.trans (B1.out.mono HB.out.size)⟩
        rw [ANY.out HQ.out.symm]
        exact decide_eq_true (by omega)
    · have i1 : ¬ (k : Int) < (z : Int) := by omega
      obtain rfl : k = z := by omega
      go_wp2_with fail
      go_ret
      refine ⟨_, rfl, ?_, HB.out⟩
      have := HA.out
      rw [HN.out, List.take_length] at this
      rw [this]
      rfl
set_option maxRecDepth 100000 in
set_option maxHeartbeats 2000000 in
theorem containsE_any {w : World} {v : Value} {l : List Ent} (h : Es w v l) (hl : l.length ≤ 1000) :
    Calls Tryz.prog 40 #[v, .func (.func 41) #[] #[]] w fun e w' => e = .returned (.bool (l.any (fun x => !smallE x))) ∧ Below w.heap.size w w' := by
  have IX := Lib.hid (indexE_any h hl)
  obtain ⟨A, c, rfl⟩ := h.shape
  clear h hl
  go_enter Tryz.func40, Tryz.ntmps40
  go_wp2_with (first
    | (go_at_call 63; refine IX.out.mono ?_; rintro e w1 ⟨j, rfl, hj, hb⟩; have B1 := Lib.hid hb; have HJ := Lib.hid hj; clear hb hj))
  go_ret
  exact ⟨congrArg (fun b => Ending.returned (Value.bool b)) HJ.out, B1.out⟩
set_option maxRecDepth 100000 in
set_option maxHeartbeats 2000000 in
theorem lgC_any (x : Chg) (w : World) :
    Calls Tryz.prog 44 #[.agg #[.string x.k, .string x.v, .bool x.gone]] w fun e w' => e = .returned (.bool (!smallC x)) ∧ Below w.heap.size w w' := by
  have LG := Lib.hid (fun W => isLarge_any x.k x.v W)
  go_enter Tryz.func44, Tryz.ntmps44
  go_wp2_with (first
    | (go_at_call 42; refine (LG.out _).mono ?_; rintro e w1 ⟨rfl, rfl⟩))
  go_ret
  refine ⟨congrArg (fun b => Ending.returned (Value.bool b)) (?_ : (_ : Bool) = _), (Below.refl _ _).alloc (Nat.le_refl _) _⟩
  simp [smallC]
set_option maxRecDepth 100000 in
set_option maxHeartbeats 2000000 in
theorem indexC_any {w : World} {v : Value} {l : List Chg} (h : Cs w v l) (hl : l.length ≤ 1000) :
    Calls Tryz.prog 64 #[v, .func (.func 44) #[] #[]] w fun e w' => ∃ j : Int, e = .returned (.int .i64 j) ∧ decide (0 ≤ j) = l.any (fun x => !smallC x) ∧ Below w.heap.size w w' := by
  obtain ⟨A, c, rfl⟩ := h.shape
  obtain ⟨z, hz⟩ : ∃ z, z = l.length := ⟨_, rfl⟩
  rw [← hz] at h ⊢
  have n1 : z ≤ 1000 := by omega
  have HE := Lib.hid h
  have HN := Lib.hid hz
  clear h hz hl
  go_enter Tryz.func64, Tryz.ntmps64
  go_wp2_with fail
  go_loopw [8] (fun vi wr => ∃ k : Nat, vi = .int .i64 (k : Int) ∧ k ≤ z ∧ Hid (Below w.heap.size w wr) ∧ Hid ((l.take k).any (fun x => !smallC x) = false)) (fun vi _ => z - (intOf vi).toNat)
  case atStart => exact ⟨0, rfl, Nat.zero_le _, Lib.hid (Below.refl _ _), Lib.hid rfl⟩
  case round =>
    obtain ⟨k, rfl, hk, HB, HA⟩ := hrel
    by_cases hlt : k < z
    · obtain ⟨x, hx⟩ : ∃ x, l[k]? = some x := ⟨_, List.getElem?_eq_getElem (by rw [← HN.out]; exact hlt)⟩
      obtain ⟨b, o, c', hv, hbl, d0, d1, d2⟩ := (HE.out.below HB.out).at_ hx
      simp only [Value.slice.injEq] at hv
      obtain ⟨rfl, -, -⟩ := hv
      have LG := Lib.hid (fun W => lgC_any x W)
      have STEP := Lib.hid (any_step (fun x => !smallC x) hx)
      have ANY := Lib.hid (fun hf => any_of (fun x => !smallC x) hx hf)
      have i1 : (k : Int) < (z : Int) := by omega
      have wk : IntKind.i64.wrap ((k : Int) + 1) = (k : Int) + 1 := IntWalk.i64_in _ (by omega)
      obtain ⟨bq, hbq⟩ : ∃ bq, bq = !smallC x := ⟨_, rfl⟩
      rw [← hbq] at LG
      have HQ := Lib.hid hbq
      clear hx hbl hbq
      cases bq with
      | false =>
        go_wp2_with (first
          | (go_at_call 44; refine (LG.out _).mono ?_; rintro e w1 ⟨rfl, hb⟩; have B1 := Lib.hid hb; clear hb))
        refine ⟨⟨k + 1, rfl, hlt, Lib.hid (HB.out.trans (B1.out.mono HB.out.size)), Lib.hid ?_⟩, by simp [intOf]; omega⟩
        rw [STEP.out, HA.out, ← HQ.out]
        rfl
      | true =>
        go_wp2_with (first
          | (go_at_call 44; refine (LG.out _).mono ?_; rintro e w1 ⟨rfl, hb⟩; have B1 := Lib.hid hb; clear hb))
        go_ret
        refine ⟨_, rfl, ?_, HB.out.trans (B1.out.mono HB.out.size)⟩
        rw [ANY.out HQ.out.symm]
        exact decide_eq_true (by omega)
    · have i1 : ¬ (k : Int) < (z : Int) := by omega
      obtain rfl : k = z := by omega
      go_wp2_with fail
      go_ret
      refine ⟨_, rfl, ?_, HB.out⟩
      have := HA.out
      rw [HN.out, List.take_length] at this
      rw [this]
      rfl
set_option maxRecDepth 100000 in
set_option maxHeartbeats 2000000 in
theorem containsC_any {w : World} {v : Value} {l : List Chg} (h : Cs w v l) (hl : l.length ≤ 1000) :
    Calls Tryz.prog 43 #[v, .func (.func 44) #[] #[]] w fun e w' => e = .returned (.bool (l.any (fun x => !smallC x))) ∧ Below w.heap.size w w' := by
  have IX := Lib.hid (indexC_any h hl)
  obtain ⟨A, c, rfl⟩ := h.shape
  clear h hl
  go_enter Tryz.func43, Tryz.ntmps43
  go_wp2_with (first
    | (go_at_call 64; refine IX.out.mono ?_; rintro e w1 ⟨j, rfl, hj, hb⟩; have B1 := Lib.hid hb; have HJ := Lib.hid hj; clear hb hj))
  go_ret
  exact ⟨congrArg (fun b => Ending.returned (Value.bool b)) HJ.out, B1.out⟩
end Go.Proofs.YtlbebdkockejcaaGreatDoor
