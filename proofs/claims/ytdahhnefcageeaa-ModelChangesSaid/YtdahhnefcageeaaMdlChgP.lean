/-
  What an act makes of the newest version, plainly.
-/
import Derived.Test.YtdahhnefcageeaaMdlPinsP
namespace Go.Proofs.Mdl
open Go.Proofs.Ytdahhnefcageeaa
set_option linter.unusedVariables false
set_option linter.unusedSimpArgs false
theorem keptL_getLast (M : Mod) : ∀ (l : List Ver), (keptL M l).getLast? = l.getLast?
  | [] => rfl
  | [v] => by rw [keptL_cons, if_pos (by rfl)]; rfl
  | v :: u :: r => by
    have ih := keptL_getLast M (u :: r)
    rw [keptL_cons]
    split
    · cases hk : keptL M (u :: r) with
      | nil => exact absurd (keptL_nil hk) (by simp)
      | cons a b =>
        rw [hk] at ih
        rw [List.getLast?_cons_cons, List.getLast?_cons_cons]
        exact ih
    · rw [ih, List.getLast?_cons_cons]
/-- What is committed is the newest one. -/
theorem do_ok {M : Mod} {x : Act} (I : Inv M) (hk : x.k = 0) (he : (doM M x).2.2 = 0) :
    (doM M x).2.1 = M.n ∧ ∃ es, Good es ∧ Good (lastV M).e ∧ lastV (doM M x).1 = ⟨M.n, es, diffM (lastV M).e es, 0⟩ := by
  have hd : doM M x = commitM M x.c := by unfold doM; rw [if_pos hk]
  rw [hd] at he ⊢
  unfold commitM at he ⊢
  rw [if_pos I.valid] at he ⊢
  by_cases ha : (applyM (lastV M).e x.c).2 = 0
  · rw [if_pos ha] at he ⊢
    by_cases hn : M.n = 1048576
    · rw [if_pos hn] at he
      cases he
    · rw [if_neg hn]
      obtain ⟨g1, _, g3, g4⟩ := applyM_good ha
      refine ⟨rfl, (applyM (lastV M).e x.c).1, by rw [g3]; exact g4, g1, ?_⟩
      generalize (applyM (lastV M).e x.c).1 = es
      show lastV (keptM (addM M es)) = _
      unfold lastV keptM
      simp only
      rw [keptL_getLast]
      unfold addM
      simp [lastV]
  · rw [if_neg ha] at he
    exact absurd he ha
/-- What fails leaves all as it was. -/
theorem do_err {M : Mod} {x : Act} (he : ¬ (doM M x).2.2 = 0) : (doM M x).1 = M := by
  unfold doM at he ⊢
  split at he
  · next h0 =>
    rw [if_pos h0]
    unfold commitM at he ⊢
    split at he
    · next h1 =>
      rw [if_pos h1]
      split at he
      · next h2 =>
        rw [if_pos h2]
        split at he
        · next h3 => rw [if_pos h3]
        · exact absurd rfl he
      · next h2 => rw [if_neg h2]
    · next h1 => rw [if_neg h1]
  · next h0 =>
    rw [if_neg h0]
    split at he
    · next h1 =>
      rw [if_pos h1]
      unfold pinM at he ⊢
      split at he
      · next h2 =>
        rw [if_pos h2]
        split at he
        · rfl
        · split at he
          · rfl
          · split at he
            · next h5 => simp only [h5, if_true]
            · exact absurd rfl he
      · next h2 => rw [if_neg h2]
    · next h1 =>
      rw [if_neg h1]
      simp only at he ⊢
      unfold unpinM at he ⊢
      split at he
      · next h2 =>
        rw [if_pos h2]
        split at he
        · rfl
        · split at he
          · rfl
          · split at he
            · next h5 => simp only [h5, if_true]
            · exact absurd rfl he
      · next h2 => rw [if_neg h2]
theorem Inv.some {M : Mod} (h : Inv M) : ∃ m, M.all.length = m + 1 ∧ M.all[m]? = some (lastV M) ∧ lastV M ∈ M.all := by
  have hne : 0 < M.all.length := by
    cases hl : M.all with
    | nil => exact absurd hl h.ne
    | cons _ _ => simp
  obtain ⟨m, hm⟩ : ∃ m, M.all.length = m + 1 := ⟨M.all.length - 1, by omega⟩
  have := lastV_at hm
  exact ⟨m, hm, this, List.mem_of_getElem? this⟩
end Go.Proofs.Mdl
