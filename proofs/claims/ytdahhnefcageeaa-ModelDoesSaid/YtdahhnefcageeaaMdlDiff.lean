/-
  Package model, plain: what makes one map of another one, done, makes it.
-/
import Derived.Test.YtdahhnefcageeaaMdlPlain
namespace Go.Proofs.Mdl
open Go
set_option linter.unusedVariables false
set_option linter.unusedSimpArgs false
theorem diffL_nn : diffL [] [] = [] := by rw [diffL]
theorem diffL_cn (a : Ent) (x : List Ent) : diffL (a :: x) [] = ⟨a.k, e0, true⟩ :: diffL x [] := by rw [diffL]
theorem diffL_nc (b : Ent) (y : List Ent) : diffL [] (b :: y) = ⟨b.k, b.v, false⟩ :: diffL [] y := by rw [diffL]
theorem diffL_cc (a b : Ent) (x y : List Ent) : diffL (a :: x) (b :: y) = if ltB a.k b.k then ⟨a.k, e0, true⟩ :: diffL x (b :: y) else if ltB b.k a.k then ⟨b.k, b.v, false⟩ :: diffL (a :: x) y else (if a.v = b.v then [] else [⟨b.k, b.v, false⟩]) ++ diffL x y := by rw [diffL]
def dif (k : ByteArray) : Option ByteArray → Option ByteArray → Option Chg
  | none, none => none
  | some _, none => some ⟨k, e0, true⟩
  | none, some y => some ⟨k, y, false⟩
  | some x, some y => if x = y then none else some ⟨k, y, false⟩
theorem up_head {a : Ent} {x : List Ent} (h : Up (a :: x)) : getE x a.k = none := getE_none (fun e he e2 => ltB_ne ((List.pairwise_cons.1 h).1 e he) e2.symm)
theorem up_low {a : Ent} {x : List Ent} {k : ByteArray} (h : Up (a :: x)) (hk : ltB k a.k = true) : getE (a :: x) k = none := getE_none (fun e he e2 => by
  subst e2
  rcases List.mem_cons.1 he with rfl | he
  · rw [ltB_irrefl] at hk; cases hk
  · have := ltB_trans hk ((List.pairwise_cons.1 h).1 e he)
    rw [ltB_irrefl] at this
    cases this)
theorem miss (c : Chg) {k : ByteArray} (h : ¬ c.k = k) (d : Option Chg) : (match d with | some d => some d | none => if c.k = k then some c else none) = d := by
  cases d with
  | none => simp [h]
  | some d => rfl
theorem lastC_diff : ∀ (n : Nat) (a b : List Ent), a.length + b.length ≤ n → Up a → Up b → ∀ k, lastC (diffL a b) k = dif k (getE a k) (getE b k)
  | _, [], [], _, _, _, k => by rw [diffL_nn]; rfl
  | 0, a :: x, b, h, _, _, _ => by simp at h
  | 0, [], b :: y, h, _, _, _ => by simp at h
  | n + 1, a :: x, [], h, ha, hb, k => by
    rw [diffL_cn, lastC_cons, lastC_diff n x [] (by simp at h ⊢; omega) (List.pairwise_cons.1 ha).2 hb k, getE_cons]
    by_cases hk : a.k = k
    · subst hk
      rw [if_pos rfl, up_head ha]
      simp [dif, getE]
    · rw [if_neg hk]
      cases getE x k <;> simp [dif, getE, hk]
  | n + 1, [], b :: y, h, ha, hb, k => by
    rw [diffL_nc, lastC_cons, lastC_diff n [] y (by simp at h ⊢; omega) ha (List.pairwise_cons.1 hb).2 k, getE_cons]
    by_cases hk : b.k = k
    · subst hk
      rw [if_pos rfl, up_head hb]
      simp [dif, getE]
    · rw [if_neg hk]
      cases getE y k <;> simp [dif, getE, hk]
  | n + 1, a :: x, b :: y, h, ha, hb, k => by
    have ha2 := (List.pairwise_cons.1 ha).2
    have hb2 := (List.pairwise_cons.1 hb).2
    simp only [List.length_cons] at h
    rw [diffL_cc]
    by_cases h1 : ltB a.k b.k = true
    · rw [if_pos h1, lastC_cons, lastC_diff n x (b :: y) (by simp; omega) ha2 hb k]
      by_cases hk : a.k = k
      · subst hk
        rw [getE_cons a x, if_pos rfl, up_head ha, up_low hb h1]
        simp [dif]
      · rw [show getE (a :: x) k = getE x k from (getE_cons a x k).trans (if_neg hk)]
        exact miss ⟨a.k, e0, true⟩ hk _
    · rw [if_neg h1]
      by_cases h2 : ltB b.k a.k = true
      · rw [if_pos h2, lastC_cons, lastC_diff n (a :: x) y (by simp; omega) ha hb2 k]
        by_cases hk : b.k = k
        · subst hk
          rw [getE_cons b y, if_pos rfl, up_head hb, up_low ha h2]
          simp [dif]
        · rw [show getE (b :: y) k = getE y k from (getE_cons b y k).trans (if_neg hk)]
          exact miss ⟨b.k, b.v, false⟩ hk _
      · rw [if_neg h2]
        have hab : a.k = b.k := ltB_conn (by simpa using h1) (by simpa using h2)
        have ih := lastC_diff n x y (by omega) ha2 hb2 k
        rw [getE_cons a x, getE_cons b y, hab]
        have hx : getE x b.k = none := by rw [← hab]; exact up_head ha
        by_cases hk : b.k = k
        · subst hk
          rw [if_pos rfl, if_pos rfl]
          rw [hx, up_head hb] at ih
          by_cases hv : a.v = b.v
          · rw [if_pos hv, List.nil_append, ih]; simp [dif, hv]
          · rw [if_neg hv, List.singleton_append, lastC_cons, ih]; simp [dif, hv]
        · rw [if_neg hk, if_neg hk]
          by_cases hv : a.v = b.v
          · rw [if_pos hv, List.nil_append, ih]
          · rw [if_neg hv, List.singleton_append, lastC_cons, ih]
            cases dif k (getE x k) (getE y k) <;> simp [hk]
/-- WHAT MAKES ONE MAP OF ANOTHER ONE, DONE, MAKES IT. -/
theorem apply_diff {a b : List Ent} (ha : Up a) (hb : Up b) : applyL a (diffL a b) = b := by
  refine ext_get (applyL_up _ ha) hb (fun k => ?_)
  rw [getE_apply _ ha, lastC_diff _ a b (Nat.le_refl _) ha hb]
  cases h1 : getE a k with
  | none =>
    cases h2 : getE b k with
    | none => simp [dif]
    | some v => simp [dif, tell]
  | some u =>
    cases h2 : getE b k with
    | none => simp [dif, tell]
    | some v =>
      by_cases hv : u = v
      · subst hv; simp [dif]
      · simp [dif, hv, tell]
theorem chOk_gone {k : ByteArray} (h : keyOk k = true) : chOk ⟨k, e0, true⟩ = true := by
  unfold chOk
  rw [h]
  rfl
theorem diff_ok : ∀ (n : Nat) (a b : List Ent), a.length + b.length ≤ n → (∀ e ∈ a, entOk e = true) → (∀ e ∈ b, entOk e = true) → ∀ c ∈ diffL a b, chOk c = true
  | _, [], [], _, _, _ => by rw [diffL_nn]; intro c hc; cases hc
  | 0, a :: x, b, h, _, _ => by simp at h
  | 0, [], b :: y, h, _, _ => by simp at h
  | n + 1, a :: x, [], h, ha, hb => by
    rw [diffL_cn]
    intro c hc
    rcases List.mem_cons.1 hc with rfl | hc
    · have := ha a (List.mem_cons_self ..)
      unfold entOk at this
      simp only [Bool.and_eq_true] at this
      exact chOk_gone this.1
    · exact diff_ok n x [] (by simp at h ⊢; omega) (fun e he => ha e (List.mem_cons_of_mem _ he)) hb c hc
  | n + 1, [], b :: y, h, ha, hb => by
    rw [diffL_nc]
    intro c hc
    rcases List.mem_cons.1 hc with rfl | hc
    · exact hb b (List.mem_cons_self ..)
    · exact diff_ok n [] y (by simp at h ⊢; omega) ha (fun e he => hb e (List.mem_cons_of_mem _ he)) c hc
  | n + 1, a :: x, b :: y, h, ha, hb => by
    simp only [List.length_cons] at h
    have ha2 : ∀ e ∈ x, entOk e = true := fun e he => ha e (List.mem_cons_of_mem _ he)
    have hb2 : ∀ e ∈ y, entOk e = true := fun e he => hb e (List.mem_cons_of_mem _ he)
    rw [diffL_cc]
    intro c hc
    split at hc
    · rcases List.mem_cons.1 hc with rfl | hc
      · have := ha a (List.mem_cons_self ..)
        unfold entOk at this
        simp only [Bool.and_eq_true] at this
        exact chOk_gone this.1
      · exact diff_ok n x (b :: y) (by simp; omega) ha2 hb c hc
    · split at hc
      · rcases List.mem_cons.1 hc with rfl | hc
        · exact hb b (List.mem_cons_self ..)
        · exact diff_ok n (a :: x) y (by simp; omega) ha hb2 c hc
      · rcases List.mem_append.1 hc with hc | hc
        · split at hc
          · cases hc
          · rw [List.mem_singleton] at hc
            subst hc
            exact hb b (List.mem_cons_self ..)
        · exact diff_ok n x y (by omega) ha2 hb2 c hc
theorem diff_len : ∀ (n : Nat) (a b : List Ent), a.length + b.length ≤ n → (diffL a b).length ≤ a.length + b.length
  | _, [], [], _ => by rw [diffL_nn]; exact Nat.zero_le _
  | 0, a :: x, b, h => by simp at h
  | 0, [], b :: y, h => by simp at h
  | n + 1, a :: x, [], h => by
    rw [diffL_cn]
    have := diff_len n x [] (by simp at h ⊢; omega)
    simp at this ⊢
    omega
  | n + 1, [], b :: y, h => by
    rw [diffL_nc]
    have := diff_len n [] y (by simp at h ⊢; omega)
    simp at this ⊢
    omega
  | n + 1, a :: x, b :: y, h => by
    simp only [List.length_cons] at h
    rw [diffL_cc]
    split
    · have := diff_len n x (b :: y) (by simp; omega)
      simp at this ⊢
      omega
    · split
      · have := diff_len n (a :: x) y (by simp; omega)
        simp at this ⊢
        omega
      · have := diff_len n x y (by omega)
        split <;> simp <;> omega
theorem diff_self : ∀ (a : List Ent), diffL a a = []
  | [] => diffL_nn
  | a :: x => by rw [diffL_cc, ltB_irrefl]; simp [diff_self x]
theorem diffM_good {a b : List Ent} (ha : Good a) (hb : Good b) : diffM a b = diffL a b := by unfold diffM; rw [if_pos ⟨good_iff.2 ha, good_iff.2 hb⟩]
theorem applyM_diff {a b : List Ent} (ha : Good a) (hb : Good b) : applyM a (diffM a b) = (b, 0) := by
  rw [diffM_good ha hb]
  unfold applyM
  rw [if_pos (good_iff.2 ha), if_pos (List.all_eq_true.2 (fun c hc => diff_ok _ a b (Nat.le_refl _) ha.ok hb.ok c hc)), apply_diff ha.up hb.up, if_neg (by have := hb.few; omega)]
end Go.Proofs.Mdl
