/-
  Package lease: what a row of acts leaves of a table (plain).
-/
import Derived.Test.YtjladlniilacjaaLeaOk
import Derived.Test.YtjladlniilacjaaLeaExpire
namespace Go.Proofs.Lea
set_option linter.unusedVariables false
set_option linter.unusedSimpArgs false
structure Tbl.Fine (t : Tbl) : Prop where
  two : ∀ i, (t.sl i).kept.length ≤ 2
  ended : t.ended.length ≤ 8
theorem lastN_len {α : Type} (n : Nat) (l : List α) : (lastN n l).length ≤ n := by unfold lastN; rw [List.length_drop]; omega
theorem fine_set {t : Tbl} (h4 : t.slots.length = 4) (f : t.Fine) (i : Nat) (hi : i < 4) (x : Slo) (hx : x.kept.length ≤ 2) : (t.set i x).Fine :=
  ⟨fun j => by rw [sl_set t h4 i hi]; split; exact hx; exact f.two j, f.ended⟩
theorem endAll_sls (clock : Int) : ∀ (l : List Nat) (t : Tbl), t.slots.length = 4 → (∀ i ∈ l, i < 4) → ∀ j, (t.endAll clock l).sl j = o0 ∨ (t.endAll clock l).sl j = t.sl j
  | [], t, _, _, j => .inr rfl
  | i :: r, t, h4, hl, j => by
    show (if clock < (t.sl i).s.dead then t.endAll clock r else (t.endOne i).endAll clock r).sl j = _ ∨ (if clock < (t.sl i).s.dead then t.endAll clock r else (t.endOne i).endAll clock r).sl j = _
    have hr : ∀ x ∈ r, x < 4 := fun x hx => hl x (List.mem_cons_of_mem _ hx)
    split
    · exact endAll_sls clock r t h4 hr j
    · have hi := hl i (List.mem_cons_self ..)
      have e4 : (t.endOne i).slots.length = 4 := by simp [Tbl.endOne, h4]
      rcases endAll_sls clock r (t.endOne i) e4 hr j with h | h
      · exact .inl h
      · rw [end_sl h4 i hi] at h
        split at h
        · exact .inl h
        · exact .inr h
theorem expire_sls {t : Tbl} (h : t.Ok) (clock : Int) (j : Nat) : (t.expire clock).1.sl j = o0 ∨ (t.expire clock).1.sl j = t.sl j :=
  endAll_sls clock t.used t h.four (fun i hi => ((used_mem t i).1 hi).1) j
theorem does_fine {t : Tbl} (h : t.Ok) (f : t.Fine) (a : Act) : (t.does a).1.Fine := by
  have hfind : ∀ {id clock : Int} {i : Nat}, t.find id clock = .ok i → i < 4 := fun e => (there_facts (find_ok e).1).1
  unfold Tbl.does
  split
  · show (t.opens a.block a.clock).1.Fine
    unfold Tbl.opens
    split
    · exact f
    · cases hf : t.free with
      | none => exact f
      | some i =>
        have hi := (free_some hf).1
        have := fine_set h.four f i hi ⟨⟨(t.opened : Int) + 1, a.block, a.clock + t.term, 0⟩, []⟩ (by simp)
        exact ⟨this.two, this.ended⟩
  · split
    · exact f
    · split
      · show (t.renew a.id a.clock).1.Fine
        unfold Tbl.renew
        cases hf : t.find a.id a.clock with
        | err e => exact f
        | ok i => exact fine_set h.four f i (hfind hf) _ (f.two i)
      · split
        · show (t.repin a.id a.block a.clock).1.Fine
          unfold Tbl.repin
          cases hf : t.find a.id a.clock with
          | err e => exact f
          | ok i => exact fine_set h.four f i (hfind hf) _ (f.two i)
        · split
          · show (t.release a.id a.clock).1.Fine
            unfold Tbl.release
            cases hf : t.find a.id a.clock with
            | err e => exact f
            | ok i => exact fine_set h.four f i (hfind hf) _ (by simp [o0])
          · split
            · show (t.expire a.clock).1.Fine
              refine ⟨fun i => ?_, lastN_len 8 _⟩
              rcases expire_sls h a.clock i with e | e
              · rw [e]; simp [o0]
              · rw [e]; exact f.two i
            · split
              · show (t.store a.id a.seq a.text).1.Fine
                unfold Tbl.store
                cases hf : t.there a.id with
                | none => exact f
                | some i =>
                  simp only
                  split
                  · exact f
                  · exact fine_set h.four f i (there_facts hf).1 _ (lastN_len 2 _)
              · exact f
theorem news_fine (most term : Int) : (news most term).Fine := by
  refine ⟨fun i => ?_, by simp [news]⟩
  have : i = 0 ∨ i = 1 ∨ i = 2 ∨ i = 3 ∨ 4 ≤ i := by omega
  rcases this with rfl | rfl | rfl | rfl | h
  · simp [Tbl.sl, news, o0]
  · simp [Tbl.sl, news, o0]
  · simp [Tbl.sl, news, o0]
  · simp [Tbl.sl, news, o0]
  · rw [sl_out _ rfl i h]; simp [o0]
/-- What never turns. -/
theorem endAll_most (clock : Int) : ∀ (l : List Nat) (t : Tbl), (t.endAll clock l).most = t.most ∧ (t.endAll clock l).term = t.term ∧ (t.endAll clock l).opened = t.opened
  | [], t => ⟨rfl, rfl, rfl⟩
  | i :: r, t => by
    show (if clock < (t.sl i).s.dead then t.endAll clock r else (t.endOne i).endAll clock r).most = _ ∧ (if clock < (t.sl i).s.dead then t.endAll clock r else (t.endOne i).endAll clock r).term = _ ∧ (if clock < (t.sl i).s.dead then t.endAll clock r else (t.endOne i).endAll clock r).opened = _
    split
    · exact endAll_most clock r t
    · exact endAll_most clock r (t.endOne i)
theorem does_most (t : Tbl) (a : Act) : (t.does a).1.most = t.most := by
  unfold Tbl.does
  split
  · show (t.opens a.block a.clock).1.most = _
    unfold Tbl.opens
    split
    · rfl
    · cases t.free <;> rfl
  · split
    · rfl
    · split
      · show (t.renew a.id a.clock).1.most = _
        unfold Tbl.renew
        cases t.find a.id a.clock <;> rfl
      · split
        · show (t.repin a.id a.block a.clock).1.most = _
          unfold Tbl.repin
          cases t.find a.id a.clock <;> rfl
        · split
          · show (t.release a.id a.clock).1.most = _
            unfold Tbl.release
            cases t.find a.id a.clock <;> rfl
          · split
            · exact (endAll_most a.clock t.used t).1
            · split
              · show (t.store a.id a.seq a.text).1.most = _
                unfold Tbl.store
                cases t.there a.id with
                | none => rfl
                | some i => simp only; split <;> rfl
              · rfl
theorem does_opened (t : Tbl) (a : Act) : (t.does a).1.opened = (if a.k = 0 ∧ (t.does a).2.e = 0 then t.opened + 1 else t.opened) ∧ (a.k = 0 → (t.does a).2.e = 0 → (t.does a).2.n = (t.opened : Int) + 1) := by
  by_cases h0 : a.k = 0
  · have e : t.does a = ((t.opens a.block a.clock).1, ⟨(t.opens a.block a.clock).2.2, (t.opens a.block a.clock).2.1, ⟨#[]⟩, s0, []⟩) := by unfold Tbl.does; rw [if_pos h0]
    rw [e]
    simp only [h0, true_and]
    unfold Tbl.opens
    split
    · refine ⟨by rw [if_neg (fun e : ((12 : Int) = 0) => absurd e (by decide))], fun _ h => by cases h⟩
    · cases t.free with
      | none => refine ⟨by rw [if_neg (fun e : ((12 : Int) = 0) => absurd e (by decide))], fun _ h => by cases h⟩
      | some i => refine ⟨by rw [if_pos rfl], fun _ _ => rfl⟩
  · rw [if_neg (fun e => h0 e.1)]
    refine ⟨?_, fun e => absurd e h0⟩
    unfold Tbl.does
    rw [if_neg h0]
    split
    · rfl
    · split
      · show (t.renew a.id a.clock).1.opened = _
        unfold Tbl.renew
        cases t.find a.id a.clock <;> rfl
      · split
        · show (t.repin a.id a.block a.clock).1.opened = _
          unfold Tbl.repin
          cases t.find a.id a.clock <;> rfl
        · split
          · show (t.release a.id a.clock).1.opened = _
            unfold Tbl.release
            cases t.find a.id a.clock <;> rfl
          · split
            · exact (endAll_most a.clock t.used t).2.2
            · split
              · show (t.store a.id a.seq a.text).1.opened = _
                unfold Tbl.store
                cases t.there a.id with
                | none => rfl
                | some i => simp only; split <;> rfl
              · rfl
theorem does_step (t : Tbl) (a : Act) (k : Nat) (h : t.opened ≤ k) : (t.does a).1.opened ≤ k + 1 := by
  rw [(does_opened t a).1]; split <;> omega
/-- Sessions rise by their numbers. -/
theorem used_rise {t : Tbl} (h : t.Ok) : t.used.Pairwise (fun a b => t.id a < t.id b) := by
  have h1 := used_sorted t
  have h2 := used_nodup t
  have hm : ∀ i ∈ t.used, i < 4 ∧ t.id i ≠ 0 := fun i hi => (used_mem t i).1 hi
  generalize t.used = l at *
  induction l with
  | nil => exact .nil
  | cons x r ih =>
    obtain ⟨a1, a2⟩ := List.pairwise_cons.1 h1
    obtain ⟨b1, b2⟩ := List.nodup_cons.1 h2
    refine List.pairwise_cons.2 ⟨fun y hy => ?_, ih a2 b2 (fun i hi => hm i (List.mem_cons_of_mem _ hi))⟩
    have c1 := a1 y hy
    have hx := hm x (List.mem_cons_self ..)
    have hy' := hm y (List.mem_cons_of_mem _ hy)
    by_cases e : t.id x = t.id y
    · have := h.apart x y hx.1 hy'.1 e hx.2
      subst this
      exact absurd hy b1
    · omega
theorem used_sub {t t' : Tbl} (h : t.Ok) (p : Nat → Bool) (hid : ∀ j, j < 4 → t'.id j = if p j = true then t.id j else 0) : t'.used = t.used.filter p := by
  have m' : ∀ j, j ∈ t'.used ↔ j ∈ t.used ∧ p j = true := by
    intro j
    rw [used_mem, used_mem]
    constructor
    · rintro ⟨h1, h2⟩
      rw [hid j h1] at h2
      split at h2
      · next hp => exact ⟨⟨h1, h2⟩, hp⟩
      · exact absurd rfl h2
    · rintro ⟨⟨h1, h2⟩, h3⟩
      exact ⟨h1, by rw [hid j h1, if_pos h3]; exact h2⟩
  have hperm : t'.used.Perm (t.used.filter p) := by
    refine (List.perm_ext_iff_of_nodup (used_nodup t') ((used_nodup t).sublist List.filter_sublist)).2 (fun j => ?_)
    rw [m', List.mem_filter]
  have id' : ∀ j ∈ t'.used, t'.id j = t.id j := fun j hj => by
    have := (m' j).1 hj
    rw [hid j ((used_mem t j).1 this.1).1, if_pos this.2]
  refine List.Perm.eq_of_pairwise (le := fun a b => t.id a ≤ t.id b) (fun a b ha hb h1 h2 => ?_) ?_ ((used_sorted t).sublist List.filter_sublist) hperm
  · have ha' := (used_mem t a).1 ((m' a).1 ha).1
    have hb' := (used_mem t b).1 (List.mem_filter.1 hb).1
    exact h.apart a b ha'.1 hb'.1 (by omega) ha'.2
  · exact (used_sorted t').imp_of_mem (fun {a b} ha hb hle => by rw [id' a ha, id' b hb] at hle; exact hle)
theorem all_len (t : Tbl) : t.all.length = t.used.length := by unfold Tbl.all; rw [List.length_map]
theorem all_room {t : Tbl} (h : t.Ok) : (t.all.length : Int) ≤ t.most := by
  have := h.room
  rw [all_len, (used_perm t).length_eq]
  have := h.most
  omega
theorem all_four (t : Tbl) : t.all.length ≤ 4 := by rw [all_len]; exact used_le t
theorem kept_two {t : Tbl} (h : t.Ok) (f : t.Fine) : t.kept ≤ 2 * t.all.length := by
  have hb : ∀ i, i < 4 → (t.sl i).kept.length ≤ if t.id i = 0 then 0 else 2 := fun i hi => by
    split
    · next e => rw [h.bare i hi e]; simp [o0]
    · exact f.two i
  have h0 := hb 0 (by decide)
  have h1 := hb 1 (by decide)
  have h2 := hb 2 (by decide)
  have h3 := hb 3 (by decide)
  have hr : t.raw.length = (if t.id 0 = 0 then 0 else 1) + (if t.id 1 = 0 then 0 else 1) + (if t.id 2 = 0 then 0 else 1) + (if t.id 3 = 0 then 0 else 1) := by
    unfold Tbl.raw
    rw [rawN_succ, rawN_succ, rawN_succ, rawN_succ]
    have : t.rawN 0 = [] := rfl
    rw [this]
    by_cases e0 : t.id 0 = 0 <;> by_cases e1 : t.id 1 = 0 <;> by_cases e2 : t.id 2 = 0 <;> by_cases e3 : t.id 3 = 0 <;> simp [e0, e1, e2, e3]
  rw [all_len, (used_perm t).length_eq, hr]
  unfold Tbl.kept
  split at h0 <;> split at h1 <;> split at h2 <;> split at h3 <;> simp_all <;> omega
theorem all_at {t : Tbl} {k : Nat} {s : Ses} (h : t.all[k]? = some s) : ∃ i, t.used[k]? = some i ∧ i < 4 ∧ t.id i ≠ 0 ∧ s = (t.sl i).s := by
  unfold Tbl.all at h
  rw [List.getElem?_map] at h
  cases e : t.used[k]? with
  | none => rw [e] at h; cases h
  | some i =>
    rw [e] at h
    cases h
    have := (used_mem t i).1 (List.mem_of_getElem? e)
    exact ⟨i, rfl, this.1, this.2, rfl⟩
theorem all_last {t : Tbl} (h : t.Ok) {k : Nat} {s : Ses} (hk : t.all[k]? = some s) : s.id ≤ t.opened ∧ 0 < s.id := by
  obtain ⟨i, _, h1, h2, rfl⟩ := all_at hk
  have := h.ids i h1
  unfold Tbl.id at this h2
  omega
theorem all_rise {t : Tbl} (h : t.Ok) {k : Nat} {s s' : Ses} (hk : t.all[k]? = some s) (hk' : t.all[k + 1]? = some s') : s.id < s'.id := by
  obtain ⟨i, e1, _, _, rfl⟩ := all_at hk
  obtain ⟨j, e2, _, _, rfl⟩ := all_at hk'
  obtain ⟨a, ha⟩ := List.getElem?_eq_some_iff.1 e1
  obtain ⟨b, hb⟩ := List.getElem?_eq_some_iff.1 e2
  have := List.pairwise_iff_getElem.1 (used_rise h) k (k + 1) a b (by omega)
  rw [ha, hb] at this
  exact this
end Go.Proofs.Lea
