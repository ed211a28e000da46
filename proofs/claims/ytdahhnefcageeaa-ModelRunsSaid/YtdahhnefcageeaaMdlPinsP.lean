/-
  What is pinned stays, plainly.
-/
import Derived.Test.YtdahhnefcageeaaMdlInv
namespace Go.Proofs.Mdl
open Go.Proofs.Ytdahhnefcageeaa
set_option linter.unusedVariables false
set_option linter.unusedSimpArgs false
/-- A version that is pinned. -/
def HasV (M : Mod) (b : Int) (es : List Ent) : Prop := ∃ V ∈ M.all, V.b = b ∧ V.e = es ∧ 1 ≤ V.p
theorem rise_inj {l : List Ver} (h : l.Pairwise (fun x y => x.b < y.b)) {i j : Nat} {V U : Ver} (hi : l[i]? = some V) (hj : l[j]? = some U) (e : V.b = U.b) : i = j := by
  obtain ⟨h1, h2⟩ := List.getElem?_eq_some_iff.1 hi
  obtain ⟨h3, h4⟩ := List.getElem?_eq_some_iff.1 hj
  rcases Nat.lt_trichotomy i j with h5 | h5 | h5
  · have := List.pairwise_iff_getElem.1 h i j h1 h3 h5
    rw [h2, h4] at this
    omega
  · exact h5
  · have := List.pairwise_iff_getElem.1 h j i h3 h1 h5
    rw [h2, h4] at this
    omega
theorem Inv.idx {M : Mod} (h : Inv M) {k : Nat} {V : Ver} (hk : M.all[k]? = some V) : idxB M.all V.b = some k :=
  idxB_some hk rfl (fun j U hj hU e => by have := rise_inj h.rise hU hk e; omega)
theorem Inv.at_ {M : Mod} (h : Inv M) {V : Ver} (hV : V ∈ M.all) : atM M V.b = (V.e, 0) := by
  obtain ⟨k, hk⟩ := List.getElem?_of_mem hV
  have hb : verB M V.b = some V := by
    unfold verB
    rw [h.idx hk]
    exact hk
  unfold atM
  rw [if_pos h.valid, hb]
theorem Inv.at_none {M : Mod} (h : Inv M) {b : Int} (hb : ∀ V ∈ M.all, ¬ V.b = b) : atM M b = ([], 4) := by
  have hi : idxB M.all b = none := idxB_none (fun j U _ hU => hb U (List.mem_of_getElem? hU))
  unfold atM verB
  rw [if_pos h.valid, hi]
  rfl
theorem HasV.at_ {M : Mod} (h : Inv M) {b : Int} {es : List Ent} (k : HasV M b es) : atM M b = (es, 0) := by
  obtain ⟨V, h1, rfl, rfl, _⟩ := k
  exact h.at_ h1
theorem HasV.keep {M : Mod} (hw : 1 ≤ M.w) (hl : lastB (-1) M.all = M.n - 1) {b : Int} {es : List Ent} (k : HasV M b es) : HasV (keptM M) b es := by
  obtain ⟨V, h1, h2, h3, h4⟩ := k
  exact ⟨V, (keptL_held (M := M) hw hl V).2 ⟨h1, .inr (by omega)⟩, h2, h3, h4⟩
theorem HasV.commit {M : Mod} (h : Inv M) (cs : List Chg) {b : Int} {es : List Ent} (k : HasV M b es) : HasV (commitM M cs).1 b es := by
  unfold commitM
  split
  · split
    · split
      · exact k
      · refine HasV.keep (M := addM M _) h.right.1 ?_ ?_
        · unfold addM
          simp only
          rw [lastB_app]
          simp only
          omega
        · obtain ⟨V, h1, h2⟩ := k
          exact ⟨V, List.mem_append_left _ h1, h2⟩
    · exact k
  · exact k
theorem HasV.set {M : Mod} (h : Inv M) {b : Int} {es : List Ent} (k : HasV M b es) {j : Nat} {V : Ver} (hj : M.all[j]? = some V) (q : Int) (hq : V.b = b → 1 ≤ q) : HasV { M with all := M.all.set j { V with p := q } } b es := by
  obtain ⟨U, h1, h2, h3, h4⟩ := k
  obtain ⟨i, hi⟩ := List.getElem?_of_mem h1
  by_cases e : j = i
  · subst e
    rw [hj] at hi
    cases hi
    exact ⟨{ V with p := q }, List.mem_of_getElem? (i := j) (List.getElem?_set_self (List.getElem?_eq_some_iff.1 hj).1), h2, h3, hq h2⟩
  · exact ⟨U, List.mem_of_getElem? (i := i) (by show (M.all.set j _)[i]? = some U; rw [List.getElem?_set_ne e]; exact hi), h2, h3, h4⟩
theorem HasV.pin {M : Mod} (h : Inv M) (n : Int) {b : Int} {es : List Ent} (k : HasV M b es) : HasV (pinM M n).1 b es := by
  unfold pinM
  split
  · split
    · exact k
    · split
      · exact k
      · next V hV =>
        split
        · exact k
        · exact k.set h hV _ (fun _ => by have := (h.ver V (List.mem_of_getElem? hV)).2.1; omega)
  · exact k
theorem HasV.unpin {M : Mod} (h : Inv M) (n : Int) {b : Int} {es : List Ent} (k : HasV M b es) (hn : ¬ n = b) : HasV (unpinM M n).1 b es := by
  unfold unpinM
  split
  · split
    · exact k
    · next j hx =>
      split
      · exact k
      · next V hV =>
        split
        · exact k
        · obtain ⟨U, hU, hb⟩ := idxB_get hx
          rw [hV] at hU
          cases hU
          refine HasV.keep (M := { M with all := M.all.set j { V with p := V.p - 1 } }) h.right.1 ((set_last (-1) _ hV).trans h.last) ?_
          exact k.set h hV _ (fun e => absurd (hb.symm.trans e) hn)
  · exact k
theorem HasV.act {M : Mod} (h : Inv M) (a : Act) {b : Int} {es : List Ent} (k : HasV M b es) (ha : a.k = 0 ∨ a.k = 1 ∨ ¬ a.n = b) : HasV (doM M a).1 b es := by
  unfold doM
  split
  · exact k.commit h a.c
  · split
    · exact k.pin h a.n
    · next h0 h1 => exact k.unpin h a.n (by rcases ha with ha | ha | ha <;> first | exact absurd ha h0 | exact absurd ha h1 | exact ha)
/-- How many pins there are at most. -/
def PinsLe (M : Mod) (q : Int) : Prop := ∀ V ∈ M.all, V.p ≤ q
theorem PinsLe.kept {M : Mod} {q : Int} (h : PinsLe M q) : PinsLe (keptM M) q := fun V hV => h V ((keptL_sub M M.all).mem hV)
theorem PinsLe.act {M : Mod} {q : Int} (h : PinsLe M q) (hq : 0 ≤ q) (a : Act) : PinsLe (doM M a).1 (q + 1) := by
  have h1 : PinsLe M (q + 1) := fun V hV => by have := h V hV; omega
  unfold doM
  split
  · unfold commitM
    split
    · split
      · split
        · exact h1
        · refine PinsLe.kept (M := addM M _) (fun V hV => ?_)
          rcases List.mem_append.1 (show V ∈ M.all ++ [_] from hV) with hV | hV
          · exact h1 V hV
          · rw [List.mem_singleton.1 hV]
            show (0 : Int) ≤ q + 1
            omega
      · exact h1
    · exact h1
  · split
    · unfold pinM
      split
      · split
        · exact h1
        · split
          · exact h1
          · next V hV =>
            split
            · exact h1
            · intro U hU
              rcases set_mem hU with rfl | hU
              · have := h V (List.mem_of_getElem? hV)
                show V.p + 1 ≤ q + 1
                omega
              · exact h1 U hU
      · exact h1
    · unfold unpinM
      split
      · split
        · exact h1
        · split
          · exact h1
          · next V hV =>
            split
            · exact h1
            · refine PinsLe.kept (M := { M with all := M.all.set _ { V with p := V.p - 1 } }) (fun U hU => ?_)
              rcases set_mem hU with rfl | hU
              · have := h V (List.mem_of_getElem? hV)
                show V.p - 1 ≤ q + 1
                omega
              · exact h1 U hU
      · exact h1
theorem runM_pins : ∀ (l : List Act) {M : Mod} {q : Int}, PinsLe M q → 0 ≤ q → PinsLe (runM M l) (q + l.length)
  | [], M, q, h, _ => by simpa [runM] using h
  | a :: r, M, q, h, hq => by
    have := runM_pins r (h.act hq a) (by omega)
    intro V hV
    have := this V hV
    simp only [List.length_cons]
    omega
theorem new_pins (n : Int) : PinsLe (newM n) 0 := fun V hV => by
  rw [List.mem_singleton.1 hV]
  exact Int.le_refl _
theorem lastB_mem : ∀ {l : List Ver} {a : Int}, ¬ l = [] → ∃ V ∈ l, V.b = lastB a l
  | [], a, h => absurd rfl h
  | [v], a, _ => ⟨v, List.mem_singleton.2 rfl, rfl⟩
  | v :: u :: r, a, _ => by
    obtain ⟨V, h1, h2⟩ := lastB_mem (l := u :: r) (a := v.b) (by simp)
    exact ⟨V, List.mem_cons_of_mem _ h1, h2⟩
theorem Inv.ne {M : Mod} (h : Inv M) : ¬ M.all = [] := fun e => by
  have := h.last
  rw [e] at this
  have h9 : (-1 : Int) = M.n - 1 := this
  have := h.right.2.2.1
  omega
theorem Inv.lt {M : Mod} (h : Inv M) {V : Ver} (hV : V ∈ M.all) : V.b < M.n := by
  have := lastB_le (a := -1) h.rise V hV
  rw [h.last] at this
  omega
/-- The newest one is pinned. -/
theorem Inv.pinned {M : Mod} (h : Inv M) {q : Int} (hp : PinsLe M q) (hq : q < 1048576) : ∃ es, (pinM M (-1)).2 = (M.n - 1, 0) ∧ HasV (pinM M (-1)).1 (M.n - 1) es ∧ (pinM M (-1)).1.n = M.n := by
  obtain ⟨V, h1, h2⟩ := lastB_mem (a := -1) h.ne
  rw [h.last] at h2
  obtain ⟨k, hk⟩ := List.getElem?_of_mem h1
  have hi := h.idx hk
  rw [h2] at hi
  have hpa : pinAt M (-1) = M.n - 1 := by unfold pinAt; rw [if_pos rfl]
  have hne : ¬ V.p = 1048576 := fun e => by have := hp V h1; omega
  have hpin : pinM M (-1) = ({ M with all := M.all.set k { V with p := V.p + 1 } }, V.b, 0) := by
    unfold pinM
    rw [if_pos h.valid, hpa, hi]
    simp only [hk]
    rw [if_neg hne]
  rw [hpin]
  refine ⟨V.e, by simp only [h2], ⟨{ V with p := V.p + 1 }, List.mem_of_getElem? (i := k) (List.getElem?_set_self (List.getElem?_eq_some_iff.1 hk).1), h2, rfl, ?_⟩, rfl⟩
  have := (h.ver V h1).2.1
  show 1 ≤ V.p + 1
  omega
theorem act_n (M : Mod) (a : Act) : M.n ≤ (doM M a).1.n := by
  unfold doM
  split
  · unfold commitM
    split
    · split
      · split
        · exact Int.le_refl _
        · show M.n ≤ M.n + 1
          omega
      · exact Int.le_refl _
    · exact Int.le_refl _
  · split
    · unfold pinM
      split
      · split
        · exact Int.le_refl _
        · split
          · exact Int.le_refl _
          · split <;> exact Int.le_refl _
      · exact Int.le_refl _
    · unfold unpinM
      split
      · split
        · exact Int.le_refl _
        · split
          · exact Int.le_refl _
          · split <;> exact Int.le_refl _
      · exact Int.le_refl _
/-- How many pins a block has. -/
def pinsB (M : Mod) (b : Int) : Nat := match verB M b with | some V => V.p.toNat | none => 0
theorem Inv.pinsB_some {M : Mod} (h : Inv M) {V : Ver} (hV : V ∈ M.all) : pinsB M V.b = V.p.toNat := by
  obtain ⟨k, hk⟩ := List.getElem?_of_mem hV
  unfold pinsB verB
  rw [h.idx hk]
  simp only [Option.bind_some, hk]
theorem Inv.pinsB_none {M : Mod} {b : Int} (hb : ∀ V ∈ M.all, ¬ V.b = b) : pinsB M b = 0 := by
  have hi : idxB M.all b = none := idxB_none (fun j U _ hU => hb U (List.mem_of_getElem? hU))
  unfold pinsB verB
  rw [hi]
  rfl
/-- A pin is taken, or there is none. -/
theorem Inv.unpinned {M : Mod} (h : Inv M) (b : Int) : ((unpinM M b).2 = 0 ∧ pinsB (unpinM M b).1 b < pinsB M b ∧ Inv (unpinM M b).1 ∧ (unpinM M b).1.n = M.n ∧ (unpinM M b).1.all.length ≤ M.all.length) ∨ ((unpinM M b).2 = 4 ∧ (unpinM M b).1 = M ∧ ∀ V ∈ M.all, V.b = b → V.p = 0) := by
  have hI := h.unpin b
  cases hx : idxB M.all b with
  | none =>
    have hu : unpinM M b = (M, 4) := by unfold unpinM; rw [if_pos h.valid, hx]
    rw [hu]
    refine .inr ⟨rfl, rfl, fun V hV e => ?_⟩
    obtain ⟨k, hk⟩ := List.getElem?_of_mem hV
    have := h.idx hk
    rw [e, hx] at this
    cases this
  | some j =>
    obtain ⟨V, hV, rfl⟩ := idxB_get hx
    by_cases hp : V.p = 0
    · have hu : unpinM M V.b = (M, 4) := by unfold unpinM; rw [if_pos h.valid, hx]; simp only [hV]; rw [if_pos hp]
      rw [hu]
      refine .inr ⟨rfl, rfl, fun U hU e => ?_⟩
      obtain ⟨k, hk⟩ := List.getElem?_of_mem hU
      obtain rfl := rise_inj h.rise hk hV e
      rw [hV] at hk
      cases hk
      exact hp
    · have hu : unpinM M V.b = (keptM { M with all := M.all.set j { V with p := V.p - 1 } }, 0) := by unfold unpinM; rw [if_pos h.valid, hx]; simp only [hV]; rw [if_neg hp]
      rw [hu] at hI ⊢
      have hm := List.mem_of_getElem? hV
      have h0 := (h.ver V hm).2.1
      have hjl := (List.getElem?_eq_some_iff.1 hV).1
      refine .inl ⟨rfl, ?_, hI, rfl, Nat.le_trans (kept_len _) (by simp)⟩
      rw [h.pinsB_some hm]
      by_cases hh : ∃ U ∈ (keptM { M with all := M.all.set j { V with p := V.p - 1 } }).all, U.b = V.b
      · obtain ⟨U, hU, hb⟩ := hh
        have hP := hI.pinsB_some hU
        rw [hb] at hP
        rw [hP]
        have hU2 := (keptL_sub { M with all := M.all.set j { V with p := V.p - 1 } } _).mem hU
        obtain ⟨i, hi⟩ := List.getElem?_of_mem hU2
        have hj2 : (M.all.set j { V with p := V.p - 1 })[j]? = some { V with p := V.p - 1 } := List.getElem?_set_self hjl
        obtain rfl := rise_inj (set_rise hV (V.p - 1) h.rise) hi hj2 hb
        have hi' : (M.all.set i { V with p := V.p - 1 })[i]? = some U := hi
        rw [hj2] at hi'
        cases hi'
        show (V.p - 1).toNat < V.p.toNat
        omega
      · rw [Inv.pinsB_none (fun U hU e => hh ⟨U, hU, e⟩)]
        omega
/-- What is there when there are no pins. -/
theorem Inv.gone {M : Mod} (h : Inv M) {b : Int} (h0 : 0 ≤ b) (hn : b < M.n) (hp : ∀ V ∈ M.all, V.b = b → V.p = 0) : decide ((atM M b).2 = 0) = decide (M.n - M.w ≤ b) := by
  by_cases hw : M.n - M.w ≤ b
  · obtain ⟨V, hV, rfl⟩ := h.there b h0 hw hn
    rw [h.at_ hV, decide_eq_true hw]
    rfl
  · rw [decide_eq_false hw, h.at_none (fun V hV e => ?_)]
    · rfl
    · rcases (h.ver V hV).2.2.2.2.2 with h1 | h1
      · omega
      · have := hp V hV e
        omega
end Go.Proofs.Mdl
