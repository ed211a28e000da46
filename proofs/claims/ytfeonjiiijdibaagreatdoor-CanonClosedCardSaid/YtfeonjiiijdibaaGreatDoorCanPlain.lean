/-
  Package canon, plain: changes done twice are done once; what one tells last of a key is what the map has; done in the other order (of changes of other keys) they do the same.
-/
import Derived.Test.YtfeonjiiijdibaaGreatDoorGaMdA
namespace Go.Proofs.Mdl
open Go
set_option linter.unusedVariables false
set_option linter.unusedSimpArgs false
theorem applyL_twice {l : List Ent} (hu : Up l) (cs : List Chg) : applyL (applyL l cs) cs = applyL l cs := by
  have h1 := applyL_up cs hu
  refine ext_get (applyL_up cs h1) h1 (fun k => ?_)
  rw [getE_apply cs h1, getE_apply cs hu]
  cases lastC cs k with
  | none => rfl
  | some c => rfl
/-- CHANGES THAT ARE DONE TWICE ARE DONE ONCE. -/
theorem applyM_twice {l : List Ent} {cs : List Chg} (h : (applyM l cs).2 = 0) : applyM (applyM l cs).1 cs = ((applyM l cs).1, 0) := by
  obtain ⟨g, hc, he, g2⟩ := applyM_good h
  rw [he]
  have ht := applyL_twice g.up cs
  unfold applyM
  rw [if_pos (good_iff.2 g2), if_pos (by simpa using hc), ht, if_neg (by have := g2.few; omega)]
/-- What changes tell of a key, one by one. -/
def toldE (k : ByteArray) (o : Option ByteArray) (c : Chg) : Option ByteArray := if c.k = k then tell c else o
theorem fold_told : ∀ (cs : List Chg) {l : List Ent}, Up l → ∀ k, getE (applyL l cs) k = cs.foldl (toldE k) (getE l k)
  | [], _, _, _ => rfl
  | c :: r, l, h, k => by
    show getE (applyL (chgE l c) r) k = _
    rw [fold_told r (chgE_up h c) k, getE_chg h, List.foldl_cons]
    rfl
theorem applyM_get {l : List Ent} {cs : List Chg} (h : (applyM l cs).2 = 0) (k : ByteArray) : getE (applyM l cs).1 k = cs.foldl (toldE k) (getE l k) := by
  obtain ⟨g, _, he, _⟩ := applyM_good h
  rw [he, fold_told cs g.up]
/-- Changes of keys of which no two are the same. -/
def Apart (cs : List Chg) : Prop := cs.Pairwise (fun x y => ¬ x.k = y.k)
theorem lastC_none {cs : List Chg} {k : ByteArray} (h : ∀ c ∈ cs, ¬ c.k = k) : lastC cs k = none := by
  induction cs with
  | nil => rfl
  | cons c r ih =>
    rw [lastC_cons, ih (fun x hx => h x (List.mem_cons_of_mem _ hx))]
    simp [h c (List.mem_cons_self ..)]
theorem lastC_some {cs : List Chg} {c : Chg} (hs : Apart cs) (hc : c ∈ cs) : lastC cs c.k = some c := by
  induction cs with
  | nil => cases hc
  | cons d r ih =>
    obtain ⟨h1, h2⟩ := List.pairwise_cons.1 hs
    rw [lastC_cons]
    rcases List.mem_cons.1 hc with rfl | hc
    · rw [lastC_none (fun x hx e => h1 x hx e.symm)]
      simp
    · rw [ih h2 hc]
theorem lastC_memC {cs : List Chg} {k : ByteArray} {c : Chg} (h : lastC cs k = some c) : c ∈ cs ∧ c.k = k := by
  induction cs with
  | nil => cases h
  | cons d r ih =>
    rw [lastC_cons] at h
    cases hr : lastC r k with
    | some e =>
      rw [hr] at h
      simp only at h
      cases h
      exact ⟨List.mem_cons_of_mem _ (ih hr).1, (ih hr).2⟩
    | none =>
      rw [hr] at h
      simp only at h
      split at h
      · next hk => cases h; exact ⟨List.mem_cons_self .., hk⟩
      · cases h
theorem lastC_perm {cs ds : List Chg} (hs : Apart cs) (ht : Apart ds) (hm : ∀ c, c ∈ cs ↔ c ∈ ds) (k : ByteArray) : lastC cs k = lastC ds k := by
  cases h : lastC cs k with
  | some c =>
    obtain ⟨h1, rfl⟩ := lastC_memC h
    exact (lastC_some ht ((hm c).1 h1)).symm
  | none =>
    cases h2 : lastC ds k with
    | none => rfl
    | some c =>
      obtain ⟨h1, rfl⟩ := lastC_memC h2
      rw [lastC_some hs ((hm c).2 h1)] at h
      cases h
/-- The keys of what makes one map of another one come of the two maps. -/
theorem diff_keys : ∀ (n : Nat) (a b : List Ent), a.length + b.length ≤ n → ∀ c ∈ diffL a b, (∃ e ∈ a, e.k = c.k) ∨ ∃ e ∈ b, e.k = c.k
  | n, [], [], _, c, hc => by rw [diffL_nn] at hc; cases hc
  | 0, a :: x, b, h, c, hc => by simp at h
  | 0, [], b :: y, h, c, hc => by simp at h
  | n + 1, a :: x, [], h, c, hc => by
    rw [diffL_cn] at hc
    rcases List.mem_cons.1 hc with rfl | hc
    · exact .inl ⟨a, List.mem_cons_self .., rfl⟩
    · rcases diff_keys n x [] (by simp at h ⊢; omega) c hc with ⟨e, he, hk⟩ | ⟨e, he, hk⟩
      · exact .inl ⟨e, List.mem_cons_of_mem _ he, hk⟩
      · cases he
  | n + 1, [], b :: y, h, c, hc => by
    rw [diffL_nc] at hc
    rcases List.mem_cons.1 hc with rfl | hc
    · exact .inr ⟨b, List.mem_cons_self .., rfl⟩
    · rcases diff_keys n [] y (by simp at h ⊢; omega) c hc with ⟨e, he, hk⟩ | ⟨e, he, hk⟩
      · cases he
      · exact .inr ⟨e, List.mem_cons_of_mem _ he, hk⟩
  | n + 1, a :: x, b :: y, h, c, hc => by
    simp at h
    rw [diffL_cc] at hc
    split at hc
    · rcases List.mem_cons.1 hc with rfl | hc
      · exact .inl ⟨a, List.mem_cons_self .., rfl⟩
      · rcases diff_keys n x (b :: y) (by simp; omega) c hc with ⟨e, he, hk⟩ | h2
        · exact .inl ⟨e, List.mem_cons_of_mem _ he, hk⟩
        · exact .inr h2
    · split at hc
      · rcases List.mem_cons.1 hc with rfl | hc
        · exact .inr ⟨b, List.mem_cons_self .., rfl⟩
        · rcases diff_keys n (a :: x) y (by simp; omega) c hc with h2 | ⟨e, he, hk⟩
          · exact .inl h2
          · exact .inr ⟨e, List.mem_cons_of_mem _ he, hk⟩
      · rcases List.mem_append.1 hc with hc | hc
        · split at hc
          · cases hc
          · rcases List.mem_singleton.1 hc with rfl
            exact .inr ⟨b, List.mem_cons_self .., rfl⟩
        · rcases diff_keys n x y (by omega) c hc with ⟨e, he, hk⟩ | ⟨e, he, hk⟩
          · exact .inl ⟨e, List.mem_cons_of_mem _ he, hk⟩
          · exact .inr ⟨e, List.mem_cons_of_mem _ he, hk⟩
theorem up_tail {a : Ent} {x : List Ent} (h : Up (a :: x)) : Up x := (List.pairwise_cons.1 h).2
theorem up_first {a : Ent} {x : List Ent} (h : Up (a :: x)) {e : Ent} (he : e ∈ x) : ltB a.k e.k = true := (List.pairwise_cons.1 h).1 e he
theorem diff_apart : ∀ (n : Nat) (a b : List Ent), a.length + b.length ≤ n → Up a → Up b → Apart (diffL a b)
  | n, [], [], _, _, _ => by rw [diffL_nn]; exact List.Pairwise.nil
  | 0, a :: x, b, h, _, _ => by simp at h
  | 0, [], b :: y, h, _, _ => by simp at h
  | n + 1, a :: x, [], h, ha, hb => by
    rw [diffL_cn]
    refine List.pairwise_cons.2 ⟨fun c hc e => ?_, diff_apart n x [] (by simp at h ⊢; omega) (up_tail ha) hb⟩
    have e2 : a.k = c.k := e
    rcases diff_keys _ _ _ (Nat.le_refl _) c hc with ⟨d, hd, hk⟩ | ⟨d, hd, hk⟩
    · exact ltB_ne (up_first ha hd) (e2.trans hk.symm)
    · cases hd
  | n + 1, [], b :: y, h, ha, hb => by
    rw [diffL_nc]
    refine List.pairwise_cons.2 ⟨fun c hc e => ?_, diff_apart n [] y (by simp at h ⊢; omega) ha (up_tail hb)⟩
    have e2 : b.k = c.k := e
    rcases diff_keys _ _ _ (Nat.le_refl _) c hc with ⟨d, hd, hk⟩ | ⟨d, hd, hk⟩
    · cases hd
    · exact ltB_ne (up_first hb hd) (e2.trans hk.symm)
  | n + 1, a :: x, b :: y, h, ha, hb => by
    simp at h
    rw [diffL_cc]
    split
    · next h1 =>
      refine List.pairwise_cons.2 ⟨fun c hc e => ?_, diff_apart n x (b :: y) (by simp; omega) (up_tail ha) hb⟩
      have e2 : a.k = c.k := e
      rcases diff_keys _ _ _ (Nat.le_refl _) c hc with ⟨d, hd, hk⟩ | ⟨d, hd, hk⟩
      · exact ltB_ne (up_first ha hd) (e2.trans hk.symm)
      · rcases List.mem_cons.1 hd with rfl | hd
        · exact ltB_ne h1 (e2.trans hk.symm)
        · exact ltB_ne (ltB_trans h1 (up_first hb hd)) (e2.trans hk.symm)
    · split
      · next h1 =>
        refine List.pairwise_cons.2 ⟨fun c hc e => ?_, diff_apart n (a :: x) y (by simp; omega) ha (up_tail hb)⟩
        have e2 : b.k = c.k := e
        rcases diff_keys _ _ _ (Nat.le_refl _) c hc with ⟨d, hd, hk⟩ | ⟨d, hd, hk⟩
        · rcases List.mem_cons.1 hd with rfl | hd
          · exact ltB_ne h1 (e2.trans hk.symm)
          · exact ltB_ne (ltB_trans h1 (up_first ha hd)) (e2.trans hk.symm)
        · exact ltB_ne (up_first hb hd) (e2.trans hk.symm)
      · next h1 h2 =>
        have hab : a.k = b.k := ltB_conn (by simpa using h1) (by simpa using h2)
        have hr := diff_apart n x y (by omega) (up_tail ha) (up_tail hb)
        split
        · exact hr
        · refine List.pairwise_cons.2 ⟨fun c hc e => ?_, hr⟩
          have e2 : b.k = c.k := e
          rcases diff_keys _ _ _ (Nat.le_refl _) c hc with ⟨d, hd, hk⟩ | ⟨d, hd, hk⟩
          · exact ltB_ne (up_first ha hd) ((hab.trans e2).trans hk.symm)
          · exact ltB_ne (up_first hb hd) (e2.trans hk.symm)
theorem apart_rev {cs : List Chg} (h : Apart cs) : Apart cs.reverse := by
  unfold Apart
  rw [List.pairwise_reverse]
  exact h.imp (fun h e => h e.symm)
/-- IN THE OTHER ORDER IT IS THE SAME. -/
theorem applyM_back {a b : List Ent} (ha : Good a) (hb : Good b) : applyM a (diffM a b).reverse = (b, 0) := by
  have hs := diff_apart _ a b (Nat.le_refl _) ha.up hb.up
  have ht : applyL a (diffL a b).reverse = b := by
    refine ext_get (applyL_up _ ha.up) hb.up (fun k => ?_)
    rw [getE_apply _ ha.up, lastC_perm (apart_rev hs) hs (fun c => List.mem_reverse), ← getE_apply _ ha.up, apply_diff ha.up hb.up]
  have hc := diff_ok _ a b (Nat.le_refl _) ha.ok hb.ok
  rw [diffM_good ha hb]
  unfold applyM
  rw [if_pos (good_iff.2 ha), if_pos (by simpa using hc), ht, if_neg (by have := hb.few; omega)]
theorem diffM_none {a : List Ent} (h : Good a) : diffM a a = [] := by rw [diffM_good h h, diff_self]
end Go.Proofs.Mdl
