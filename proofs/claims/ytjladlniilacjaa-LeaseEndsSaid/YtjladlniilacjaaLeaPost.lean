/-
  Package lease: what holds behind a release, and behind an expiry (plain).
-/
import Derived.Test.YtjladlniilacjaaLeaInv
namespace Go.Proofs.Lea
set_option linter.unusedVariables false
set_option linter.unusedSimpArgs false
/-- A release that found its session. -/
theorem finds_zero {t : Tbl} {id clock : Int} (h : (t.finds id clock).2 = 0) : ∃ i, t.find id clock = .ok i ∧ (t.finds id clock).1 = (t.sl i).s := by
  unfold Tbl.finds at h ⊢
  cases hf : t.find id clock with
  | ok i => exact ⟨i, rfl, rfl⟩
  | err e =>
    rw [hf] at h
    simp only at h
    rcases find_err hf with rfl | rfl
    · cases h
    · cases h
theorem release_err {t : Tbl} {id clock : Int} (h : (t.finds id clock).2 ≠ 0) : (t.release id clock).1 = t ∧ (t.release id clock).2.2 = (t.finds id clock).2 := by
  unfold Tbl.release
  unfold Tbl.finds at h ⊢
  cases hf : t.find id clock with
  | ok i => rw [hf] at h; exact absurd rfl h
  | err e => exact ⟨rfl, rfl⟩
theorem release_ok {t : Tbl} (ht : t.Ok) {id clock : Int} {i : Nat} (h : t.find id clock = .ok i) :
    (t.release id clock) = (t.set i o0, (t.sl i).s.block, 0) ∧ i < 4 ∧ t.id i = id ∧ id ≠ 0 ∧ id ∉ t.ended := by
  obtain ⟨h1, h2, h3⟩ := find_ok h
  obtain ⟨h4, h5, h6⟩ := there_facts h1
  refine ⟨?_, h4, h5, h6, h3⟩
  unfold Tbl.release
  rw [h]
theorem gone_there {t : Tbl} (ht : t.Ok) {i : Nat} (hi : i < 4) (h0 : t.id i ≠ 0) : (t.set i o0).there (t.id i) = none := by
  cases hh : (t.set i o0).there (t.id i) with
  | none => rfl
  | some j =>
    obtain ⟨h1, h2, h3⟩ := there_facts hh
    rw [gone_ids ht i hi] at h2
    split at h2
    · exact absurd h2.symm h3
    · next hne => exact absurd (ht.apart j i h1 hi h2 (by rw [h2]; exact h3)) hne
theorem gone_all {t : Tbl} (ht : t.Ok) {i : Nat} (hi : i < 4) (h0 : t.id i ≠ 0) : (t.set i o0).all = t.all.filter (fun s => decide (s.id ≠ t.id i)) := by
  have hu : (t.set i o0).used = t.used.filter (fun j => decide (t.id j ≠ t.id i)) := by
    refine used_sub ht _ (fun j hj => ?_)
    rw [gone_ids ht i hi]
    by_cases e : j = i
    · subst e; simp
    · rw [if_neg e]
      by_cases e2 : t.id j = t.id i
      · exact absurd (ht.apart j i hj hi e2 (by rw [e2]; exact h0)) e
      · simp [e2]
  unfold Tbl.all
  rw [hu, List.filter_map]
  have hm : ∀ j ∈ t.used.filter (fun j => decide (t.id j ≠ t.id i)), ((t.set i o0).sl j).s = (t.sl j).s := by
    intro j hj
    have := (List.mem_filter.1 hj).2
    rw [sl_set t ht.four i hi, if_neg (fun e => by subst e; simp at this)]
  rw [List.map_congr_left hm]
  rfl
theorem gone_used {t : Tbl} (ht : t.Ok) {i : Nat} (hi : i < 4) (h0 : t.id i ≠ 0) : (t.set i o0).used.length ≠ (t.set i o0).most.toNat := by
  have hu : (t.set i o0).used = t.used.filter (fun j => decide (t.id j ≠ t.id i)) := by
    refine used_sub ht _ (fun j hj => ?_)
    rw [gone_ids ht i hi]
    by_cases e : j = i
    · subst e; simp
    · rw [if_neg e]
      by_cases e2 : t.id j = t.id i
      · exact absurd (ht.apart j i hj hi e2 (by rw [e2]; exact h0)) e
      · simp [e2]
  have hlt : (t.used.filter (fun j => decide (t.id j ≠ t.id i))).length < t.used.length := by
    refine Nat.lt_of_le_of_ne (List.length_filter_le _ _) (fun e => ?_)
    have := List.length_filter_eq_length_iff.1 e i ((used_mem t i).2 ⟨hi, h0⟩)
    simp at this
  have hr := ht.room
  rw [← (used_perm t).length_eq] at hr
  rw [hu]
  show _ ≠ t.most.toNat
  omega
theorem opens_ok {t : Tbl} (ht : t.Ok) (hu : t.used.length ≠ t.most.toNat) (ho : t.opened ≠ 1048576) (block clock : Int) : (t.opens block clock).2.2 = 0 := by
  obtain ⟨i, hi⟩ := free_ex ht hu
  unfold Tbl.opens
  rw [if_neg (fun e => e.elim hu ho), hi]
/-- All that is told of a session that is released. -/
theorem released {t : Tbl} (ht : t.Ok) {id clock : Int} (h : (t.finds id clock).2 = 0) (ho : t.opened ≤ 1000) :
    ∃ t', t.release id clock = (t', (t.finds id clock).1.block, 0) ∧ t'.all = t.all.filter (fun s => decide (s.id ≠ id)) ∧ (∀ seq, (t'.replay id seq).2 = 5) ∧ (∀ seq x, t'.store id seq x = (t', 5)) ∧ (∀ c, t'.renew id c = (t', 5)) ∧ ∀ b c, (t'.opens b c).2.2 = 0 := by
  obtain ⟨i, hf, hs⟩ := finds_zero h
  obtain ⟨h1, hi, hid, h0, hend⟩ := release_ok ht hf
  have h0' : t.id i ≠ 0 := by rw [hid]; exact h0
  have hth : (t.set i o0).there id = none := by rw [← hid]; exact gone_there ht hi h0'
  refine ⟨t.set i o0, by rw [h1, hs], by rw [gone_all ht hi h0', hid], fun seq => ?_, fun seq x => ?_, fun c => ?_, fun b c => ?_⟩
  · unfold Tbl.replay; rw [hth]
  · unfold Tbl.store; rw [hth]
  · unfold Tbl.renew Tbl.find
    rw [hth]
    simp only
    rw [if_neg (show id ∉ (t.set i o0).ended from hend)]
  · exact opens_ok (gone_ok ht i hi) (gone_used ht hi h0') (show t.opened ≠ 1048576 by omega) b c
end Go.Proofs.Lea
