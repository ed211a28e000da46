/-
  Package lease: what holds of a table stays so (plain).
-/
import Derived.Test.YtjladlniilacjaaLeaPlain
namespace Go.Proofs.Lea
set_option linter.unusedVariables false
set_option linter.unusedSimpArgs false
theorem sl_set (t : Tbl) (h4 : t.slots.length = 4) (k : Nat) (hk : k < 4) (x : Slo) (j : Nat) : (t.set k x).sl j = if j = k then x else t.sl j := by
  unfold Tbl.set Tbl.sl
  by_cases h : j = k
  · subst h; rw [if_pos rfl]; simp [h4, hk]
  · rw [if_neg h]; simp [Ne.symm h]
theorem raw_congr {t t' : Tbl} (h : ∀ j, t'.id j = t.id j) : t'.raw = t.raw := by
  unfold Tbl.raw Tbl.rawN
  congr 1
  funext i
  rw [h]
theorem used_congr {t t' : Tbl} (h : ∀ j, t'.id j = t.id j) : t'.used = t.used := by
  unfold Tbl.used
  rw [raw_congr h, show t'.id = t.id from funext h]
theorem sl_out (t : Tbl) (h4 : t.slots.length = 4) (j : Nat) (hj : 4 ≤ j) : t.sl j = o0 := by
  unfold Tbl.sl
  rw [List.getD_eq_getElem?_getD, List.getElem?_eq_none (by omega)]
  rfl
theorem id_out (t : Tbl) (h4 : t.slots.length = 4) (j : Nat) (hj : 4 ≤ j) : t.id j = 0 := by unfold Tbl.id; rw [sl_out t h4 j hj]; rfl
/-- A slot is turned, its number not. -/
theorem set_ok {t : Tbl} (h : t.Ok) (i : Nat) (hi : i < 4) (x : Slo) (hx : x.s.id = t.id i) (h0 : t.id i ≠ 0) (hk : x.kept.length ≤ 3) : (t.set i x).Ok ∧ (t.set i x).used = t.used ∧ ∀ j, (t.set i x).id j = t.id j := by
  have hs := sl_set t h.four i hi x
  have hid : ∀ j, (t.set i x).id j = t.id j := fun j => by
    unfold Tbl.id
    rw [hs]
    by_cases e : j = i
    · rw [if_pos e, e]; exact hx
    · rw [if_neg e]
  refine ⟨⟨by simp [Tbl.set, h.four], h.most, h.term, h.opened, fun j hj => by rw [hid]; exact h.ids j hj, fun j k hj hk => by rw [hid, hid]; exact h.apart j k hj hk, by rw [raw_congr hid]; exact h.room, ?_, ?_, ?_⟩, used_congr hid, hid⟩
  · intro j hj e
    rw [hid] at e
    rw [hs, if_neg (fun e2 => h0 (by rw [← e2]; exact e))]
    exact h.bare j hj e
  · intro j hj
    rw [hs]
    by_cases e : j = i
    · rw [if_pos e]; exact hk
    · rw [if_neg e]; exact h.kept j hj
  · intro e he
    obtain ⟨h1, h2, h3⟩ := h.gone e he
    exact ⟨h1, h2, fun j hj => by rw [hid]; exact h3 j hj⟩
/-- A slot is let go. -/
theorem gone_ids {t : Tbl} (h : t.Ok) (i : Nat) (hi : i < 4) (j : Nat) : (t.set i o0).id j = if j = i then 0 else t.id j := by
  unfold Tbl.id
  rw [sl_set t h.four i hi]
  by_cases e : j = i
  · rw [if_pos e, if_pos e]; rfl
  · rw [if_neg e, if_neg e]
theorem filter_le {p q : Nat → Bool} (h : ∀ i, p i = true → q i = true) : ∀ l : List Nat, (l.filter p).length ≤ (l.filter q).length
  | [] => Nat.le_refl _
  | x :: r => by
    have := filter_le h r
    rw [List.filter_cons, List.filter_cons]
    by_cases hp : p x = true
    · rw [if_pos hp, if_pos (h x hp)]; simpa using this
    · rw [if_neg hp]
      split
      · simp; omega
      · exact this
theorem gone_ok {t : Tbl} (h : t.Ok) (i : Nat) (hi : i < 4) : (t.set i o0).Ok := by
  have hid := gone_ids h i hi
  have hs := sl_set t h.four i hi o0
  refine ⟨by simp [Tbl.set, h.four], h.most, h.term, h.opened, fun j hj => ?_, fun j k hj hk e e0 => ?_, ?_, fun j hj e => ?_, fun j hj => ?_, fun e he => ?_⟩
  · rw [hid]
    by_cases e : j = i
    · rw [if_pos e]; exact ⟨Int.le_refl _, by show (0 : Int) ≤ (t.opened : Int); omega⟩
    · rw [if_neg e]; exact h.ids j hj
  · rw [hid, hid] at e
    rw [hid] at e0
    by_cases e1 : j = i
    · rw [if_pos e1] at e0; exact absurd rfl e0
    · rw [if_neg e1] at e e0
      by_cases e2 : k = i
      · rw [if_pos e2] at e; exact absurd e e0
      · rw [if_neg e2] at e; exact h.apart j k hj hk e e0
  · have hf : ∀ j, (fun j => decide ((t.set i o0).id j ≠ 0)) j = true → (fun j => decide (t.id j ≠ 0)) j = true := fun j hj => by
      simp only [decide_eq_true_eq] at hj ⊢
      rw [hid] at hj
      by_cases e : j = i
      · rw [if_pos e] at hj; exact absurd rfl hj
      · rw [if_neg e] at hj; exact hj
    have h5 : (t.set i o0).raw.length ≤ t.raw.length := filter_le hf (List.range 4)
    exact Nat.le_trans h5 h.room
  · rw [hs]
    by_cases e1 : j = i
    · rw [if_pos e1]
    · rw [if_neg e1]
      rw [hid, if_neg e1] at e
      exact h.bare j hj e
  · rw [hs]
    by_cases e1 : j = i
    · rw [if_pos e1]; exact Nat.zero_le _
    · rw [if_neg e1]; exact h.kept j hj
  · obtain ⟨h1, h2, h3⟩ := h.gone e he
    refine ⟨h1, h2, fun j hj => ?_⟩
    rw [hid]
    by_cases e1 : j = i
    · rw [if_pos e1]; omega
    · rw [if_neg e1]; exact h3 j hj
theorem end_ok {t : Tbl} (h : t.Ok) (i : Nat) (hi : i < 4) (h0 : t.id i ≠ 0) : (t.endOne i).Ok := by
  have g := gone_ok h i hi
  have hid := gone_ids h i hi
  refine ⟨g.four, g.most, g.term, g.opened, g.ids, g.apart, g.room, g.bare, g.kept, fun e he => ?_⟩
  rcases List.mem_append.1 (show e ∈ t.ended ++ [t.id i] from he) with he | he
  · exact g.gone e he
  · rw [List.mem_singleton.1 he]
    have := h.ids i hi
    refine ⟨by omega, this.2, fun j hj => ?_⟩
    show (t.set i o0).id j ≠ t.id i
    rw [hid]
    by_cases e1 : j = i
    · rw [if_pos e1]; omega
    · rw [if_neg e1]
      exact fun e2 => e1 ((h.apart j i hj hi e2 (by rw [e2]; exact h0)))
theorem ended_sub {t : Tbl} (h : t.Ok) (l : List Int) (hl : ∀ e ∈ l, e ∈ t.ended) : ({ t with ended := l } : Tbl).Ok :=
  ⟨h.four, h.most, h.term, h.opened, h.ids, h.apart, h.room, h.bare, h.kept, fun e he => h.gone e (hl e he)⟩
theorem free_some {t : Tbl} {i : Nat} (h : t.free = some i) : i < 4 ∧ t.id i = 0 := by
  unfold Tbl.free at h
  have h1 := List.mem_of_find?_eq_some h
  have h2 := List.find?_some h
  exact ⟨by simpa using h1, by simpa using h2⟩
theorem open_ids {t : Tbl} (h : t.Ok) (i : Nat) (hi : i < 4) (x : Slo) (j : Nat) : ({ t with slots := t.slots.set i x, opened := t.opened + 1 } : Tbl).id j = if j = i then x.s.id else t.id j := by
  show ((t.set i x).sl j).s.id = _
  rw [sl_set t h.four i hi]
  by_cases e : j = i
  · rw [if_pos e, if_pos e]
  · rw [if_neg e, if_neg e]; rfl
theorem raw_free {t : Tbl} {i : Nat} (hi : i < 4) (h0 : t.id i = 0) (t' : Tbl) (hid : ∀ j, j ≠ i → t'.id j = t.id j) : t'.raw.length ≤ t.raw.length + 1 := by
  have key : ∀ l : List Nat, l.Nodup → (l.filter (fun j => decide (t'.id j ≠ 0))).length ≤ (l.filter (fun j => decide (t.id j ≠ 0))).length + (if i ∈ l then 1 else 0) := by
    intro l
    induction l with
    | nil => intro _; simp
    | cons x r ih =>
      intro hn
      obtain ⟨hx, hr⟩ := List.nodup_cons.1 hn
      have := ih hr
      rw [List.filter_cons, List.filter_cons]
      by_cases e : x = i
      · subst e
        rw [if_neg hx] at this
        rw [if_pos (List.mem_cons_self ..), if_neg (show ¬ decide (t.id x ≠ 0) = true by simp [h0])]
        split
        · simp only [List.length_cons]; omega
        · omega
      · have hm : (i ∈ x :: r) = (i ∈ r) := by rw [List.mem_cons]; simp [Ne.symm e]
        rw [hid x e]
        simp only [hm]
        split
        · simp only [List.length_cons]; omega
        · exact this
  have h4 := key (List.range 4) List.nodup_range
  rw [if_pos (by simpa using hi)] at h4
  exact h4
theorem open_ok {t : Tbl} (h : t.Ok) (i : Nat) (hi : i < 4) (h0 : t.id i = 0) (b d : Int) (hr : t.used.length ≠ t.most.toNat) (ho : t.opened ≠ 1048576) :
    ({ t with slots := t.slots.set i ⟨⟨(t.opened : Int) + 1, b, d, 0⟩, []⟩, opened := t.opened + 1 } : Tbl).Ok := by
  have hid := open_ids h i hi ⟨⟨(t.opened : Int) + 1, b, d, 0⟩, []⟩
  have hs : ∀ j, ({ t with slots := t.slots.set i ⟨⟨(t.opened : Int) + 1, b, d, 0⟩, []⟩, opened := t.opened + 1 } : Tbl).sl j = if j = i then ⟨⟨(t.opened : Int) + 1, b, d, 0⟩, []⟩ else t.sl j := fun j => sl_set t h.four i hi _ j
  have hr2 : t.raw.length < t.most.toNat := by
    have := h.room
    rw [(used_perm t).length_eq] at hr
    omega
  refine ⟨by simp [h.four], h.most, h.term, by have := h.opened; show t.opened + 1 ≤ _; omega, fun j hj => ?_, fun j k hj hk e e0 => ?_, ?_, fun j hj e => ?_, fun j hj => ?_, fun e he => ?_⟩
  · rw [hid]
    show _ ∧ _ ≤ ((t.opened + 1 : Nat) : Int)
    by_cases e : j = i
    · rw [if_pos e]; simp only; omega
    · rw [if_neg e]; have := h.ids j hj; omega
  · rw [hid, hid] at e
    rw [hid] at e0
    by_cases e1 : j = i
    · by_cases e2 : k = i
      · rw [e1, e2]
      · rw [if_pos e1, if_neg e2] at e
        have := h.ids k hk
        simp only at e
        omega
    · rw [if_neg e1] at e e0
      by_cases e2 : k = i
      · rw [if_pos e2] at e
        have := h.ids j hj
        simp only at e
        omega
      · rw [if_neg e2] at e; exact h.apart j k hj hk e e0
  · refine Nat.le_trans (raw_free hi h0 _ (fun j hj => by rw [hid, if_neg hj])) ?_
    show t.raw.length + 1 ≤ t.most.toNat
    omega
  · rw [hs]
    rw [hid] at e
    by_cases e1 : j = i
    · rw [if_pos e1] at e; simp only at e; omega
    · rw [if_neg e1] at e ⊢; exact h.bare j hj e
  · rw [hs]
    by_cases e1 : j = i
    · rw [if_pos e1]; exact Nat.zero_le _
    · rw [if_neg e1]; exact h.kept j hj
  · obtain ⟨h1, h2, h3⟩ := h.gone e he
    refine ⟨h1, by show e ≤ ((t.opened + 1 : Nat) : Int); omega, fun j hj => ?_⟩
    rw [hid]
    by_cases e1 : j = i
    · rw [if_pos e1]; simp only; omega
    · rw [if_neg e1]; exact h3 j hj
theorem free_ex {t : Tbl} (h : t.Ok) (hr : t.used.length ≠ t.most.toNat) : ∃ i, t.free = some i := by
  cases hf : t.free with
  | some i => exact ⟨i, rfl⟩
  | none =>
    exfalso
    unfold Tbl.free at hf
    rw [List.find?_eq_none] at hf
    have h4 : t.raw = List.range 4 := by
      unfold Tbl.raw Tbl.rawN
      rw [List.filter_eq_self]
      intro i hi
      have := hf i hi
      simpa using this
    have := h.room
    have hm := h.most
    rw [(used_perm t).length_eq, h4] at hr
    rw [h4] at this
    simp at this hr
    omega
theorem there_facts {t : Tbl} {id : Int} {i : Nat} (h : t.there id = some i) : i < 4 ∧ t.id i = id ∧ id ≠ 0 := by
  unfold Tbl.there at h
  have h1 := (used_mem t i).1 (List.mem_of_find?_eq_some h)
  have h2 : t.id i = id := by simpa using List.find?_some h
  exact ⟨h1.1, h2, by rw [← h2]; exact h1.2⟩
theorem there_iff {t : Tbl} (h : t.Ok) (id : Int) (h0 : id ≠ 0) (i : Nat) : t.there id = some i ↔ i < 4 ∧ t.id i = id := by
  constructor
  · intro e; have := there_facts e; exact ⟨this.1, this.2.1⟩
  · rintro ⟨h1, h2⟩
    cases e : t.there id with
    | some j =>
      have := there_facts e
      rw [h.apart j i this.1 h1 (by rw [this.2.1, h2]) (by rw [this.2.1]; exact h0)]
    | none =>
      unfold Tbl.there at e
      rw [List.find?_eq_none] at e
      have := e i ((used_mem t i).2 ⟨h1, by rw [h2]; exact h0⟩)
      simp [h2] at this
theorem find_ok {t : Tbl} {id clock : Int} {i : Nat} (h : t.find id clock = .ok i) : t.there id = some i ∧ clock < (t.sl i).s.dead ∧ id ∉ t.ended := by
  unfold Tbl.find at h
  cases e : t.there id with
  | none => rw [e] at h; simp only at h; split at h <;> cases h
  | some j =>
    rw [e] at h
    simp only at h
    by_cases hc : (t.sl j).s.dead ≤ clock ∨ id ∈ t.ended
    · rw [if_pos hc] at h; cases h
    · rw [if_neg hc] at h
      cases h
      exact ⟨rfl, by omega, fun hin => hc (.inr hin)⟩
theorem find_err {t : Tbl} {id clock e : Int} (h : t.find id clock = .err e) : e = 5 ∨ e = 6 := by
  unfold Tbl.find at h
  cases ht : t.there id with
  | none =>
    rw [ht] at h
    simp only at h
    split at h
    · cases h; exact .inr rfl
    · cases h; exact .inl rfl
  | some j =>
    rw [ht] at h
    simp only at h
    split at h
    · cases h; exact .inr rfl
    · cases h
end Go.Proofs.Lea
