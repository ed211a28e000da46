/-
  Reachable models, plainly.
-/
import Derived.Test.YtdahhnefcageeaaMdlDo
namespace Go.Proofs.Mdl
open Go.Proofs.Ytdahhnefcageeaa
set_option linter.unusedVariables false
set_option linter.unusedSimpArgs false
def held (M : Mod) (v : Ver) : Prop := M.n - M.w ≤ v.b ∨ 0 < v.p
theorem keptV_false {M : Mod} {v : Ver} : keptV M false v = true ↔ held M v := by
  unfold keptV held
  simp
def lastB (a : Int) : List Ver → Int
  | [] => a
  | v :: r => lastB v.b r
/-- What it is that a row of versions may be. -/
theorem vgo_iff {M : Mod} (hw : 1 ≤ M.w) : ∀ {l : List Ver} {a : Int}, vgo M a l = true ↔
    l.Pairwise (fun x y => x.b < y.b) ∧ (∀ V ∈ l, a < V.b ∧ 0 ≤ V.p ∧ V.p ≤ 1048576 ∧ checkN V.e = 0 ∧ held M V) ∧ lastB a l = M.n - 1
  | [], a => by
    constructor
    · intro h
      exact ⟨List.Pairwise.nil, fun V hV => absurd hV List.not_mem_nil, of_decide_eq_true h⟩
    · rintro ⟨_, _, h⟩
      exact decide_eq_true h
  | [v], a => by
    rw [vgo_cons, Bool.and_eq_true, okV_iff]
    constructor
    · rintro ⟨⟨h1, h2, h3, h4, _⟩, h6⟩
      have h7 : v.b = M.n - 1 := of_decide_eq_true h6
      refine ⟨List.pairwise_singleton _ _, fun V hV => ?_, h7⟩
      rw [List.mem_singleton.1 hV]
      exact ⟨h1, h2, h3, h4, .inl (by omega)⟩
    · rintro ⟨_, h, h7⟩
      obtain ⟨h1, h2, h3, h4, _⟩ := h v (List.mem_singleton.2 rfl)
      exact ⟨⟨h1, h2, h3, h4, rfl⟩, decide_eq_true h7⟩
  | v :: u :: r, a => by
    rw [vgo_cons, Bool.and_eq_true, okV_iff, vgo_iff hw (l := u :: r) (a := v.b)]
    have hk : keptV M (u :: r).isEmpty v = true ↔ held M v := keptV_false
    rw [hk]
    constructor
    · rintro ⟨⟨h1, h2, h3, h4, h5⟩, h6, h7, h8⟩
      refine ⟨List.pairwise_cons.2 ⟨fun y hy => (h7 y hy).1, h6⟩, fun V hV => ?_, h8⟩
      rcases List.mem_cons.1 hV with rfl | hV
      · exact ⟨h1, h2, h3, h4, h5⟩
      · obtain ⟨k1, k2⟩ := h7 V hV
        exact ⟨by omega, k2⟩
    · rintro ⟨h6, h7, h8⟩
      obtain ⟨p1, p2⟩ := List.pairwise_cons.1 h6
      refine ⟨h7 v (List.mem_cons_self ..), p2, fun V hV => ?_, h8⟩
      exact ⟨p1 V hV, (h7 V (List.mem_cons_of_mem _ hV)).2⟩
/-- Where the last one is the newest one, what is kept is what is held. -/
theorem keptL_held {M : Mod} (hw : 1 ≤ M.w) : ∀ {l : List Ver} {a : Int}, lastB a l = M.n - 1 → ∀ V, V ∈ keptL M l ↔ V ∈ l ∧ held M V
  | [], _, _, V => by simp [keptL]
  | [v], a, h, V => by
    have h7 : v.b = M.n - 1 := h
    have hv : held M v := .inl (by omega)
    rw [keptL_cons, if_pos (by rfl)]
    constructor
    · intro hV
      rw [show keptL M [] = [] from rfl] at hV
      rw [List.mem_singleton.1 hV]
      exact ⟨List.mem_singleton.2 rfl, hv⟩
    · rintro ⟨hV, _⟩
      exact hV
  | v :: u :: r, a, h, V => by
    have ih := keptL_held hw (l := u :: r) (a := v.b) h V
    have hk : keptV M (u :: r).isEmpty v = true ↔ held M v := keptV_false
    rw [keptL_cons]
    by_cases hv : held M v
    · rw [if_pos (hk.2 hv)]
      constructor
      · intro h0
        rcases List.mem_cons.1 h0 with rfl | h1
        · exact ⟨List.mem_cons_self .., hv⟩
        · obtain ⟨h2, h3⟩ := ih.1 h1
          exact ⟨List.mem_cons_of_mem _ h2, h3⟩
      · rintro ⟨h1, h2⟩
        rcases List.mem_cons.1 h1 with rfl | h1
        · exact List.mem_cons_self ..
        · exact List.mem_cons_of_mem _ (ih.2 ⟨h1, h2⟩)
    · rw [if_neg (fun e => hv (hk.1 e))]
      constructor
      · intro h0
        obtain ⟨h2, h3⟩ := ih.1 h0
        exact ⟨List.mem_cons_of_mem _ h2, h3⟩
      · rintro ⟨h1, h2⟩
        rcases List.mem_cons.1 h1 with rfl | h1
        · exact absurd h2 hv
        · exact ih.2 ⟨h1, h2⟩
theorem keptL_sub (M : Mod) : ∀ (l : List Ver), (keptL M l).Sublist l
  | [] => List.Sublist.slnil
  | v :: r => by
    rw [keptL_cons]
    split
    · exact (keptL_sub M r).cons_cons v
    · exact (keptL_sub M r).cons v
/-- A reachable model. -/
structure Inv (M : Mod) : Prop where
  right : 1 ≤ M.w ∧ M.w ≤ 8 ∧ 1 ≤ M.n ∧ M.n ≤ 1048576
  rise : M.all.Pairwise (fun x y => x.b < y.b)
  ver : ∀ V ∈ M.all, -1 < V.b ∧ 0 ≤ V.p ∧ V.p ≤ 1048576 ∧ Good V.e ∧ V.c.length ≤ 80 ∧ held M V
  last : lastB (-1) M.all = M.n - 1
  there : ∀ b : Int, 0 ≤ b → M.n - M.w ≤ b → b < M.n → ∃ V ∈ M.all, V.b = b
theorem Inv.valid {M : Mod} (h : Inv M) : validM M = true := by
  obtain ⟨r1, r2, r3, r4⟩ := h.right
  have hne : 0 < M.all.length := by
    cases hl : M.all with
    | nil =>
      have := h.last
      rw [hl] at this
      have h9 : (-1 : Int) = M.n - 1 := this
      omega
    | cons _ _ => simp
  unfold validM
  rw [rightM_iff.2 ⟨r1, r2, r3, r4, hne⟩, Bool.true_and]
  exact (vgo_iff r1).2 ⟨h.rise, fun V hV => by obtain ⟨h1, h2, h3, h4, _, h6⟩ := h.ver V hV; exact ⟨h1, h2, h3, good_iff.2 h4, h6⟩, h.last⟩
theorem lastB_kept (M : Mod) : ∀ (l : List Ver) (a : Int), lastB a (keptL M l) = lastB a l
  | [], a => rfl
  | [v], a => by rw [keptL_cons, if_pos (by rfl)]; rfl
  | v :: u :: r, a => by
    rw [keptL_cons]
    split
    · show lastB v.b (keptL M (u :: r)) = lastB v.b (u :: r)
      exact lastB_kept M (u :: r) v.b
    · rw [lastB_kept M (u :: r) a]
      rfl
theorem Inv.keep {M : Mod} (right : 1 ≤ M.w ∧ M.w ≤ 8 ∧ 1 ≤ M.n ∧ M.n ≤ 1048576) (rise : M.all.Pairwise (fun x y => x.b < y.b))
    (ver : ∀ V ∈ M.all, -1 < V.b ∧ 0 ≤ V.p ∧ V.p ≤ 1048576 ∧ Good V.e ∧ V.c.length ≤ 80) (last : lastB (-1) M.all = M.n - 1)
    (there : ∀ b : Int, 0 ≤ b → M.n - M.w ≤ b → b < M.n → ∃ V ∈ M.all, V.b = b) : Inv (keptM M) where
  right := right
  rise := rise.sublist (keptL_sub M M.all)
  ver V hV := by
    obtain ⟨h1, h2⟩ := (keptL_held (M := M) right.1 last V).1 hV
    obtain ⟨k1, k2, k3, k4, k5⟩ := ver V h1
    exact ⟨k1, k2, k3, k4, k5, h2⟩
  last := (lastB_kept M M.all (-1)).trans last
  there b h1 h2 h3 := by
    obtain ⟨V, hV, hb⟩ := there b h1 h2 h3
    have h2' : M.n - M.w ≤ b := h2
    exact ⟨V, (keptL_held (M := M) right.1 last V).2 ⟨hV, .inl (by omega)⟩, hb⟩
theorem inv_new (n : Int) : Inv (newM n) where
  right := by unfold newM; simp only; omega
  rise := List.pairwise_singleton _ _
  ver V hV := by
    rw [List.mem_singleton.1 hV]
    exact ⟨by decide, by decide, by decide, good_nil, by decide, .inl (by unfold newM; simp only; omega)⟩
  last := rfl
  there b h1 h2 h3 := ⟨_, List.mem_singleton.2 rfl, by have h4 : b < 1 := h3; show (0 : Int) = b; omega⟩
/-- A version whose pins have turned. -/
theorem set_rise {l : List Ver} {k : Nat} {V : Ver} (hV : l[k]? = some V) (q : Int) (h : l.Pairwise (fun x y => x.b < y.b)) : (l.set k { V with p := q }).Pairwise (fun x y => x.b < y.b) := by
  have e : (l.set k { V with p := q }).map (·.b) = l.map (·.b) := by
    rw [List.map_set]
    apply List.ext_getElem?
    intro i
    rw [List.getElem?_set]
    by_cases hi : k = i
    · subst hi
      have hlt := (List.getElem?_eq_some_iff.1 hV).1
      rw [if_pos rfl, if_pos (by simpa using hlt), List.getElem?_map, hV]
      rfl
    · rw [if_neg hi]
  have h2 : (l.map (·.b)).Pairwise (· < ·) := List.pairwise_map.2 h
  rw [← e] at h2
  exact List.pairwise_map.1 h2
theorem set_last : ∀ {l : List Ver} {k : Nat} {V : Ver} (a q : Int), l[k]? = some V → lastB a (l.set k { V with p := q }) = lastB a l
  | [], k, V, a, q, h => by simp at h
  | v :: r, 0, V, a, q, h => by
    simp only [List.getElem?_cons_zero, Option.some.injEq] at h
    subst h
    rfl
  | v :: r, k + 1, V, a, q, h => by
    rw [List.set_cons_succ]
    exact set_last v.b q (by simpa using h)
theorem set_mem {l : List Ver} {k : Nat} {V U : Ver} (h : U ∈ l.set k V) : U = V ∨ U ∈ l := (List.mem_or_eq_of_mem_set h).symm
theorem set_there {l : List Ver} {k : Nat} {V : Ver} (hV : l[k]? = some V) (q : Int) {b : Int} (h : ∃ U ∈ l, U.b = b) : ∃ U ∈ l.set k { V with p := q }, U.b = b := by
  obtain ⟨U, hU, hb⟩ := h
  obtain ⟨i, hi⟩ := List.getElem?_of_mem hU
  by_cases e : k = i
  · subst e
    rw [hV] at hi
    cases hi
    exact ⟨{ V with p := q }, List.mem_of_getElem? (i := k) (by rw [List.getElem?_set_self (List.getElem?_eq_some_iff.1 hV).1]), hb⟩
  · exact ⟨U, List.mem_of_getElem? (i := i) (by rw [List.getElem?_set_ne e]; exact hi), hb⟩
theorem Inv.pin {M : Mod} (h : Inv M) (b : Int) : Inv (pinM M b).1 := by
  unfold pinM
  split
  · split
    · exact h
    · next k _ =>
      split
      · exact h
      · next V hV =>
        split
        · exact h
        · next hp =>
          obtain ⟨v1, v2, v3, v4, v5, _⟩ := h.ver V (List.mem_of_getElem? hV)
          exact { right := h.right, rise := set_rise hV _ h.rise, last := (set_last (-1) _ hV).trans h.last, there := fun b h1 h2 h3 => set_there hV _ (h.there b h1 h2 h3),
                  ver := fun U hU => by
                    rcases set_mem hU with rfl | hU
                    · exact ⟨v1, by simp only; omega, by simp only; omega, v4, v5, .inr (by simp only; omega)⟩
                    · exact h.ver U hU }
  · exact h
theorem Inv.unpin {M : Mod} (h : Inv M) (b : Int) : Inv (unpinM M b).1 := by
  unfold unpinM
  split
  · split
    · exact h
    · next k _ =>
      split
      · exact h
      · next V hV =>
        split
        · exact h
        · next hp =>
          obtain ⟨v1, v2, v3, v4, v5, _⟩ := h.ver V (List.mem_of_getElem? hV)
          exact Inv.keep (M := { M with all := M.all.set k { V with p := V.p - 1 } }) h.right (set_rise hV _ h.rise) (fun U hU => by
            rcases set_mem hU with rfl | hU
            · exact ⟨v1, by simp only; omega, by simp only; omega, v4, v5⟩
            · obtain ⟨k1, k2, k3, k4, k5, _⟩ := h.ver U hU
              exact ⟨k1, k2, k3, k4, k5⟩) ((set_last (-1) _ hV).trans h.last) (fun b h1 h2 h3 => set_there hV _ (h.there b h1 h2 h3))
  · exact h
theorem lastB_app : ∀ (l : List Ver) (a : Int) (v : Ver), lastB a (l ++ [v]) = v.b
  | [], a, v => rfl
  | x :: r, a, v => lastB_app r x.b v
theorem lastB_le : ∀ {l : List Ver} {a : Int}, l.Pairwise (fun x y => x.b < y.b) → ∀ V ∈ l, V.b ≤ lastB a l
  | [], a, _, V, h => absurd h List.not_mem_nil
  | [v], a, _, V, h => by rw [List.mem_singleton.1 h]; exact Int.le_refl _
  | v :: u :: r, a, h, V, hV => by
    obtain ⟨h1, h2⟩ := List.pairwise_cons.1 h
    have k1 := lastB_le (l := u :: r) (a := v.b) h2
    rcases List.mem_cons.1 hV with rfl | hV
    · have := h1 u (List.mem_cons_self ..)
      have := k1 u (List.mem_cons_self ..)
      show V.b ≤ lastB V.b (u :: r)
      omega
    · exact k1 V hV
theorem Inv.commit {M : Mod} (h : Inv M) (cs : List Chg) : Inv (commitM M cs).1 := by
  unfold commitM
  split
  · split
    · next hz =>
      split
      · exact h
      · next hn =>
        obtain ⟨g1, g2, g3, g4⟩ := applyM_good hz
        rw [← g3] at g4
        generalize hes : (applyM (lastV M).e cs).1 = es at g4 ⊢
        obtain ⟨r1, r2, r3, r4⟩ := h.right
        have up : ∀ V ∈ M.all, V.b < M.n := fun V hV => by
          have := lastB_le (a := -1) h.rise V hV
          rw [h.last] at this
          omega
        have dl : (diffM (lastV M).e es).length ≤ 80 := by
          rw [diffM_good g1 g4]
          have := diff_len _ _ _ (Nat.le_refl ((lastV M).e.length + es.length))
          have := g1.few
          have := g4.few
          omega
        refine Inv.keep (M := addM M es) ⟨r1, r2, by unfold addM; simp only; omega, by unfold addM; simp only; omega⟩ ?_ ?_ ?_ ?_
        · unfold addM
          refine List.pairwise_append.2 ⟨h.rise, List.pairwise_singleton _ _, fun x hx y hy => ?_⟩
          rw [List.mem_singleton.1 hy]
          exact up x hx
        · intro V hV
          rcases List.mem_append.1 (show V ∈ M.all ++ [_] from hV) with hV | hV
          · obtain ⟨k1, k2, k3, k4, k5, _⟩ := h.ver V hV
            exact ⟨k1, k2, k3, k4, k5⟩
          · rw [List.mem_singleton.1 hV]
            exact ⟨by simp only; omega, Int.le_refl _, (by decide : (0 : Int) ≤ 1048576), g4, dl⟩
        · unfold addM
          simp only
          rw [lastB_app]
          simp only
          omega
        · intro b h1 h2 h3
          have h2' : M.n + 1 - M.w ≤ b := h2
          have h3' : b < M.n + 1 := h3
          by_cases e : b = M.n
          · exact ⟨_, List.mem_append_right _ (List.mem_singleton.2 rfl), e.symm⟩
          · obtain ⟨V, hV, hb⟩ := h.there b h1 (by omega) (by omega)
            exact ⟨V, List.mem_append_left _ hV, hb⟩
    · exact h
  · exact h
theorem Inv.act {M : Mod} (h : Inv M) (a : Act) : Inv (doM M a).1 := by
  unfold doM
  split
  · exact h.commit a.c
  · split
    · exact h.pin a.n
    · exact h.unpin a.n
theorem kept_len (M : Mod) : (keptM M).all.length ≤ M.all.length := keptL_le M M.all
/-- An act adds one version at most. -/
theorem act_len (M : Mod) (a : Act) : (doM M a).1.all.length ≤ M.all.length + 1 := by
  unfold doM
  split
  · unfold commitM
    split
    · split
      · split
        · exact Nat.le_succ _
        · refine Nat.le_trans (kept_len _) ?_
          unfold addM
          simp
      · exact Nat.le_succ _
    · exact Nat.le_succ _
  · split
    · unfold pinM
      split
      · split
        · exact Nat.le_succ _
        · split
          · exact Nat.le_succ _
          · split
            · exact Nat.le_succ _
            · simp
      · exact Nat.le_succ _
    · unfold unpinM
      split
      · split
        · exact Nat.le_succ _
        · split
          · exact Nat.le_succ _
          · split
            · exact Nat.le_succ _
            · refine Nat.le_trans (kept_len _) ?_
              simp
      · exact Nat.le_succ _
/-- What has been done. -/
def runM (M : Mod) (l : List Act) : Mod := l.foldl (fun m a => (doM m a).1) M
theorem runM_inv : ∀ (l : List Act) {M : Mod}, Inv M → Inv (runM M l)
  | [], _, h => h
  | a :: r, _, h => runM_inv r (h.act a)
theorem runM_len : ∀ (l : List Act) (M : Mod), (runM M l).all.length ≤ M.all.length + l.length
  | [], M => Nat.le_refl _
  | a :: r, M => by
    have h1 := runM_len r (doM M a).1
    have h2 := act_len M a
    show (runM (doM M a).1 r).all.length ≤ _
    simp only [List.length_cons]
    omega
theorem runM_step {l : List Act} {k : Nat} {a : Act} (M : Mod) (h : l[k]? = some a) : runM M (l.take (k + 1)) = (doM (runM M (l.take k)) a).1 := by
  unfold runM
  rw [List.take_add_one, h, Option.toList_some, List.foldl_append]
  rfl
/-- As many versions of the window are there as the window has. -/
theorem Inv.count {M : Mod} (h : Inv M) : (((M.all.filter (fun V => decide (M.n - M.w ≤ V.b))).length : Nat) : Int) = min M.w M.n := by
  obtain ⟨r1, r2, r3, r4⟩ := h.right
  obtain ⟨m, hm⟩ : ∃ m : Nat, (m : Int) = min M.w M.n := ⟨(min M.w M.n).toNat, by omega⟩
  have hn1 : ((M.all.filter (fun V => decide (M.n - M.w ≤ V.b))).map (·.b)).Nodup := by
    rw [List.Nodup, List.pairwise_map]
    exact (h.rise.sublist List.filter_sublist).imp (fun h => by omega)
  have hn2 : ((List.range m).map (fun i : Nat => M.n - 1 - (i : Int))).Nodup := by
    rw [List.Nodup, List.pairwise_map]
    exact List.pairwise_lt_range.imp (fun h => by omega)
  have hp := (List.perm_ext_iff_of_nodup hn1 hn2).2 (fun x => by
    constructor
    · intro hx
      obtain ⟨V, hV, rfl⟩ := List.mem_map.1 hx
      obtain ⟨h1, h2⟩ := List.mem_filter.1 hV
      have h3 := of_decide_eq_true h2
      have h4 := (h.ver V h1).1
      have h5 := lastB_le (a := -1) h.rise V h1
      rw [h.last] at h5
      exact List.mem_map.2 ⟨(M.n - 1 - V.b).toNat, List.mem_range.2 (by omega), by omega⟩
    · intro hx
      obtain ⟨i, hi, rfl⟩ := List.mem_map.1 hx
      have h1 := List.mem_range.1 hi
      obtain ⟨V, hV, hb⟩ := h.there (M.n - 1 - (i : Int)) (by omega) (by omega) (by omega)
      exact List.mem_map.2 ⟨V, List.mem_filter.2 ⟨hV, decide_eq_true (by omega)⟩, hb⟩)
  have := hp.length_eq
  rw [List.length_map, List.length_map, List.length_range] at this
  rw [this, hm]
theorem act_w (M : Mod) (a : Act) : (doM M a).1.w = M.w := by
  unfold doM
  split
  · unfold commitM
    split
    · split
      · split <;> rfl
      · rfl
    · rfl
  · split
    · unfold pinM
      split
      · split
        · rfl
        · split
          · rfl
          · split <;> rfl
      · rfl
    · unfold unpinM
      split
      · split
        · rfl
        · split
          · rfl
          · split <;> rfl
      · rfl
theorem runM_w : ∀ (l : List Act) (M : Mod), (runM M l).w = M.w
  | [], _ => rfl
  | a :: r, M => (runM_w r (doM M a).1).trans (act_w M a)
end Go.Proofs.Mdl
