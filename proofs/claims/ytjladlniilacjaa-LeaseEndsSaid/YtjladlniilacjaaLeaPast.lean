/-
  Package lease: what holds behind an expiry (plain).
-/
import Derived.Test.YtjladlniilacjaaLeaPost
namespace Go.Proofs.Lea
set_option linter.unusedVariables false
set_option linter.unusedSimpArgs false
theorem endAll_whole (clock : Int) : ∀ (l : List Nat) (t : Tbl), t.slots.length = 4 → (∀ i ∈ l, i < 4) → l.Nodup →
    (∀ j, (t.endAll clock l).sl j = if j ∈ l ∧ (t.sl j).s.dead ≤ clock then o0 else t.sl j) ∧ (t.endAll clock l).ended = t.ended ++ (l.filter (fun i => decide ((t.sl i).s.dead ≤ clock))).map t.id
  | [], t, _, _, _ => ⟨fun j => by rw [if_neg (fun e => by cases e.1)]; rfl, by simp [Tbl.endAll]⟩
  | i :: r, t, h4, hl, hn => by
    have hr : ∀ x ∈ r, x < 4 := fun x hx => hl x (List.mem_cons_of_mem _ hx)
    have hi := hl i (List.mem_cons_self ..)
    obtain ⟨n1, n2⟩ := List.nodup_cons.1 hn
    by_cases hd : clock < (t.sl i).s.dead
    · have e : t.endAll clock (i :: r) = t.endAll clock r := if_pos hd
      obtain ⟨h1, h2⟩ := endAll_whole clock r t h4 hr n2
      rw [e]
      refine ⟨fun j => ?_, ?_⟩
      · rw [h1]
        by_cases hj : j = i
        · subst hj
          rw [if_neg (fun e => n1 e.1), if_neg (fun e => by have := e.2; omega)]
        · by_cases hc : j ∈ r ∧ (t.sl j).s.dead ≤ clock
          · rw [if_pos hc, if_pos ⟨List.mem_cons_of_mem _ hc.1, hc.2⟩]
          · rw [if_neg hc, if_neg (fun e => hc ⟨(List.mem_cons.1 e.1).resolve_left hj, e.2⟩)]
      · rw [h2, List.filter_cons, if_neg (by simp; omega)]
    · have e : t.endAll clock (i :: r) = (t.endOne i).endAll clock r := if_neg hd
      have e4 : (t.endOne i).slots.length = 4 := by simp [Tbl.endOne, h4]
      obtain ⟨h1, h2⟩ := endAll_whole clock r (t.endOne i) e4 hr n2
      have es : ∀ j, (t.endOne i).sl j = if j = i then o0 else t.sl j := end_sl h4 i hi
      have er : ∀ j ∈ r, (t.endOne i).sl j = t.sl j := fun j hj => by rw [es, if_neg (fun (e : j = i) => n1 (by rw [← e]; exact hj))]
      rw [e]
      refine ⟨fun j => ?_, ?_⟩
      · rw [h1]
        by_cases hj : j = i
        · subst hj
          rw [if_neg (fun e => n1 e.1), es, if_pos rfl, if_pos ⟨List.mem_cons_self .., by omega⟩]
        · rw [es, if_neg hj]
          by_cases hc : j ∈ r ∧ (t.sl j).s.dead ≤ clock
          · rw [if_pos hc, if_pos ⟨List.mem_cons_of_mem _ hc.1, hc.2⟩]
          · rw [if_neg hc, if_neg (fun e => hc ⟨(List.mem_cons.1 e.1).resolve_left hj, e.2⟩)]
      · rw [h2, List.filter_cons, if_pos (by simp; omega), List.map_cons]
        have f1 : r.filter (fun j => decide (((t.endOne i).sl j).s.dead ≤ clock)) = r.filter (fun j => decide ((t.sl j).s.dead ≤ clock)) := List.filter_congr (fun j hj => by rw [er j hj])
        have f2 : ∀ l : List Nat, (∀ j ∈ l, j ∈ r) → l.map (t.endOne i).id = l.map t.id := fun l hl => List.map_congr_left (fun j hj => by unfold Tbl.id; rw [er j (hl j hj)])
        rw [f1, f2 _ (fun j hj => (List.mem_filter.1 hj).1)]
        show t.ended ++ [t.id i] ++ _ = t.ended ++ (t.id i :: _)
        rw [List.append_assoc]
        rfl
theorem endAll_ok (clock : Int) : ∀ (l : List Nat) (t : Tbl), t.Ok → (∀ i ∈ l, i < 4 ∧ t.id i ≠ 0) → l.Nodup → (t.endAll clock l).Ok
  | [], t, h, _, _ => h
  | i :: r, t, h, hl, hn => by
    obtain ⟨n1, n2⟩ := List.nodup_cons.1 hn
    have hi := hl i (List.mem_cons_self ..)
    have hr : ∀ x ∈ r, x < 4 ∧ t.id x ≠ 0 := fun x hx => hl x (List.mem_cons_of_mem _ hx)
    by_cases hd : clock < (t.sl i).s.dead
    · have e : t.endAll clock (i :: r) = t.endAll clock r := if_pos hd
      rw [e]
      exact endAll_ok clock r t h hr n2
    · have e : t.endAll clock (i :: r) = (t.endOne i).endAll clock r := if_neg hd
      rw [e]
      refine endAll_ok clock r _ (end_ok h i hi.1 hi.2) (fun x hx => ⟨(hr x hx).1, ?_⟩) n2
      have : (t.endOne i).id x = t.id x := by
        unfold Tbl.id
        rw [end_sl h.four i hi.1, if_neg (fun (e : x = i) => n1 (by rw [← e]; exact hx))]
      rw [this]
      exact (hr x hx).2
theorem lastN_mem {α : Type} (n : Nat) (a b : List α) (h : b.length ≤ n) (x : α) (hx : x ∈ b) : x ∈ lastN n (a ++ b) := by
  unfold lastN
  rw [List.drop_append_of_le_length (by rw [List.length_append]; omega)]
  exact List.mem_append_right _ hx
/-- All that is told of an expiry. -/
theorem expired {t : Tbl} (ht : t.Ok) (f : t.Fine) (clock : Int) :
    (t.expire clock).2 = t.all.filter (fun s => decide (s.dead ≤ clock)) ∧ (t.expire clock).1.all = t.all.filter (fun s => decide (clock < s.dead)) ∧
    (t.expire clock).1.expire clock = ((t.expire clock).1, []) ∧
    (∀ s ∈ t.all, s.dead ≤ clock → (t.expire clock).1.finds s.id 0 = (s0, 6) ∧ (t.expire clock).1.renew s.id 0 = ((t.expire clock).1, 6)) ∧
    ∀ s ∈ t.all, clock < s.dead → (t.expire clock).1.finds s.id clock = (s, 0) := by
  obtain ⟨w1, w2⟩ := endAll_whole clock t.used t ht.four (fun i hi => ((used_mem t i).1 hi).1) (used_nodup t)
  have ok0 := endAll_ok clock t.used t ht (fun i hi => (used_mem t i).1 hi) (used_nodup t)
  have ok1 : (t.expire clock).1.Ok := ended_sub ok0 _ (fun e he => List.mem_of_mem_drop he)
  have fine1 : (t.expire clock).1.Fine := by have := does_fine ht f ⟨5, 0, 0, clock, 0, ⟨#[]⟩⟩; exact this
  have e2 : (t.expire clock).2 = t.all.filter (fun s => decide (s.dead ≤ clock)) := by
    show (t.over clock).map (fun i => (t.sl i).s) = _
    unfold Tbl.over Tbl.all
    rw [List.filter_map]
    rfl
  have sl1 : ∀ j, (t.expire clock).1.sl j = if j ∈ t.used ∧ (t.sl j).s.dead ≤ clock then o0 else t.sl j := w1
  have en1 : (t.expire clock).1.ended = lastN 8 (t.ended ++ (t.over clock).map t.id) := by
    show lastN 8 (t.endAll clock t.used).ended = _
    rw [w2]
    rfl
  have hin : ∀ i ∈ t.used, (t.sl i).s.dead ≤ clock → t.id i ∈ (t.expire clock).1.ended := fun i hi hd => by
    rw [en1]
    refine lastN_mem 8 _ _ ?_ _ (List.mem_map.2 ⟨i, List.mem_filter.2 ⟨hi, by simpa using hd⟩, rfl⟩)
    rw [List.length_map]
    have := used_le t
    have := List.length_filter_le (fun i => decide ((t.sl i).s.dead ≤ clock)) t.used
    unfold Tbl.over
    omega
  have id1 : ∀ j, j < 4 → (t.expire clock).1.id j = if decide (clock < (t.sl j).s.dead) = true then t.id j else 0 := fun j hj => by
    unfold Tbl.id
    rw [sl1]
    by_cases h0 : t.id j = 0
    · have hb := ht.bare j hj h0
      have hz : (t.sl j).s.id = 0 := h0
      split
      · split
        · rw [hz]; rfl
        · rfl
      · split
        · rfl
        · exact hz
    · have hu := (used_mem t j).2 ⟨hj, h0⟩
      by_cases hd : (t.sl j).s.dead ≤ clock
      · rw [if_pos ⟨hu, hd⟩, if_neg (by simp; omega)]; rfl
      · rw [if_neg (fun e => hd e.2), if_pos (by simp; omega)]
  have us1 : (t.expire clock).1.used = t.used.filter (fun j => decide (clock < (t.sl j).s.dead)) := used_sub ht _ id1
  have hs1 : ∀ j, clock < (t.sl j).s.dead → (t.expire clock).1.sl j = t.sl j := fun j hd => by rw [sl1, if_neg (fun e => by have := e.2; omega)]
  have al1 : (t.expire clock).1.all = t.all.filter (fun s => decide (clock < s.dead)) := by
    unfold Tbl.all
    rw [us1, List.filter_map]
    have hm : ∀ j ∈ t.used.filter (fun j => decide (clock < (t.sl j).s.dead)), ((t.expire clock).1.sl j).s = (t.sl j).s := by
      intro j hj
      have := (List.mem_filter.1 hj).2
      rw [hs1 j (by simpa using this)]
    rw [List.map_congr_left hm]
    rfl
  have hmem : ∀ s ∈ t.all, ∃ i, i ∈ t.used ∧ i < 4 ∧ t.id i ≠ 0 ∧ s = (t.sl i).s := fun s hs => by
    obtain ⟨k, hk⟩ := List.getElem?_of_mem hs
    obtain ⟨i, h1, h2, h3, h4⟩ := all_at hk
    exact ⟨i, List.mem_of_getElem? h1, h2, h3, h4⟩
  refine ⟨e2, al1, ?_, ?_, ?_⟩
  · generalize ht1 : (t.expire clock).1 = t1 at *
    have ha : ∀ (l : List Nat), (∀ j ∈ l, clock < (t1.sl j).s.dead) → t1.endAll clock l = t1 := by
      intro l
      induction l with
      | nil => intro _; rfl
      | cons x r ih =>
        intro h
        show (if clock < (t1.sl x).s.dead then t1.endAll clock r else (t1.endOne x).endAll clock r) = t1
        rw [if_pos (h x (List.mem_cons_self ..))]
        exact ih (fun j hj => h j (List.mem_cons_of_mem _ hj))
    have hall : ∀ j ∈ t1.used, clock < (t1.sl j).s.dead := fun j hj => by
      rw [us1] at hj
      have := (List.mem_filter.1 hj).2
      have hd : clock < (t.sl j).s.dead := by simpa using this
      rw [hs1 j hd]
      exact hd
    unfold Tbl.expire
    rw [ha _ hall]
    have ho : t1.over clock = [] := by
      unfold Tbl.over
      rw [List.filter_eq_nil_iff]
      intro j hj
      have := hall j hj
      simp
      omega
    rw [ho]
    have hl : lastN 8 t1.ended = t1.ended := by
      unfold lastN
      have := fine1.ended
      rw [show t1.ended.length - 8 = 0 by omega, List.drop_zero]
    simp only [hl]
    rfl
  · intro s hs hd
    obtain ⟨i, hi, hi4, h0, rfl⟩ := hmem s hs
    have hth : (t.expire clock).1.there (t.sl i).s.id = none := by
      cases hh : (t.expire clock).1.there (t.sl i).s.id with
      | none => rfl
      | some j =>
        obtain ⟨h1, h2, h3⟩ := there_facts hh
        exact absurd h2 ((ok1.gone _ (hin i hi hd)).2.2 j h1)
    have hie : (t.sl i).s.id ∈ (t.expire clock).1.ended := hin i hi hd
    have hf : (t.expire clock).1.find (t.sl i).s.id 0 = .err 6 := by
      unfold Tbl.find
      rw [hth]
      simp only
      rw [if_pos hie]
    constructor
    · unfold Tbl.finds; rw [hf]
    · unfold Tbl.renew; rw [hf]
  · intro s hs hd
    obtain ⟨i, hi, hi4, h0, rfl⟩ := hmem s hs
    have hsl := hs1 i hd
    have hidd : (t.expire clock).1.id i = (t.sl i).s.id := by unfold Tbl.id; rw [hsl]
    have hth : (t.expire clock).1.there (t.sl i).s.id = some i := (there_iff ok1 _ h0 i).2 ⟨hi4, hidd⟩
    have hne : (t.sl i).s.id ∉ (t.expire clock).1.ended := fun e => (ok1.gone _ e).2.2 i hi4 hidd
    have hf : (t.expire clock).1.find (t.sl i).s.id clock = .ok i := by
      unfold Tbl.find
      rw [hth]
      simp only
      rw [if_neg (fun e => e.elim (fun h => by rw [hsl] at h; omega) hne)]
    unfold Tbl.finds
    rw [hf]
    simp only
    rw [hsl]
end Go.Proofs.Lea
