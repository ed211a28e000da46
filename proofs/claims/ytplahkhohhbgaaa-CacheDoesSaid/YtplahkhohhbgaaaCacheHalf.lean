/-
  Package cache: halve, on plain lists of counts.
-/
import Derived.Test.YtplahkhohhbgaaaCacheRange
namespace Go.Proofs.Cch
/-- A count that is still to come stays; one that was met is halved, and goes below 1. -/
def hv (left : ByteArray → Bool) (p : ByteArray × Nat) : Option (ByteArray × Nat) := if left p.1 then some p else if 2 ≤ p.2 then some (p.1, p.2 / 2) else none
def csL (cs : Counts) (left : ByteArray → Bool) : Counts := cs.filterMap (hv left)
def halvedC (cs : Counts) : Counts := csL cs (fun _ => false)
theorem fm_congr {α β : Type} {f h : α → Option β} : ∀ {l : List α}, (∀ x ∈ l, f x = h x) → l.filterMap f = l.filterMap h
  | [], _ => rfl
  | x :: r, H => by
    have h0 := H x (by simp)
    have h1 := fm_congr (l := r) (fun y hy => H y (by simp [hy]))
    rw [List.filterMap_cons, List.filterMap_cons, h0, h1]
theorem csL_start (cs : Counts) (left : ByteArray → Bool) (h : ∀ p ∈ cs, left p.1 = true) : csL cs left = cs := by
  unfold csL
  have : ∀ p ∈ cs, hv left p = some p := fun p hp => by unfold hv; rw [if_pos (h p hp)]
  rw [fm_congr this]
  simp
theorem csL_end (cs : Counts) (left : ByteArray → Bool) (h : ∀ s, left s = false) : csL cs left = halvedC cs := by
  unfold halvedC csL
  exact fm_congr (fun p _ => by unfold hv; rw [h])
theorem hv_key {left : ByteArray → Bool} {p q : ByteArray × Nat} (h : hv left p = some q) : q.1 = p.1 := by
  unfold hv at h
  split at h
  · cases h; rfl
  · split at h
    · cases h; rfl
    · cases h
theorem mem_csL {cs : Counts} {left : ByteArray → Bool} {s : ByteArray} {c : Nat} (hm : (s, c) ∈ cs) (hl : left s = true) : (s, c) ∈ csL cs left := by
  unfold csL
  exact List.mem_filterMap.2 ⟨(s, c), hm, by unfold hv; rw [if_pos hl]⟩
theorem only_one {cs : Counts} (hn : (cs.map Prod.fst).Nodup) {p q : ByteArray × Nat} (hp : p ∈ cs) (hq : q ∈ cs) (h : p.1 = q.1) : p = q := by
  obtain ⟨a, b⟩ := p
  obtain ⟨c, d⟩ := q
  simp only at h
  subst h
  have h1 := cntAt_mem hn hp
  have h2 := cntAt_mem hn hq
  rw [← h1, h2]
theorem csL_keep {cs : Counts} (hn : (cs.map Prod.fst).Nodup) {left : ByteArray → Bool} {s : ByteArray} {c : Nat} (hm : (s, c) ∈ cs) (hl : left s = true) (hc : 2 ≤ c) :
    putC (csL cs left) s (c / 2) = csL cs (fun t => left t && !decide (t = s)) := by
  unfold putC
  rw [if_pos (hasC_iff.2 ⟨c, mem_csL hm hl⟩)]
  unfold csL
  rw [List.map_filterMap]
  refine fm_congr (fun p hp => ?_)
  by_cases e : p.1 = s
  · obtain rfl := only_one hn hp hm e
    simp [hv, hl, hc]
  · rcases hq : hv left p with _ | q
    · have : hv (fun t => left t && !decide (t = s)) p = hv left p := by unfold hv; simp [e]
      rw [this, hq]; rfl
    · have : hv (fun t => left t && !decide (t = s)) p = hv left p := by unfold hv; simp [e]
      rw [this, hq]
      simp [hv_key hq, e]
theorem csL_drop {cs : Counts} (hn : (cs.map Prod.fst).Nodup) {left : ByteArray → Bool} {s : ByteArray} {c : Nat} (hm : (s, c) ∈ cs) (hl : left s = true) (hc : ¬ 2 ≤ c) :
    delC (putC (csL cs left) s (c / 2)) s = csL cs (fun t => left t && !decide (t = s)) := by
  unfold putC
  rw [if_pos (hasC_iff.2 ⟨c, mem_csL hm hl⟩)]
  unfold csL delC
  rw [List.map_filterMap, List.filter_filterMap]
  refine fm_congr (fun p hp => ?_)
  by_cases e : p.1 = s
  · obtain rfl := only_one hn hp hm e
    simp [hv, hl, hc]
  · rcases hq : hv left p with _ | q
    · have : hv (fun t => left t && !decide (t = s)) p = hv left p := by unfold hv; simp [e]
      rw [this, hq]; rfl
    · have : hv (fun t => left t && !decide (t = s)) p = hv left p := by unfold hv; simp [e]
      rw [this, hq]
      simp [hv_key hq, e]
theorem csL_nodup {cs : Counts} (hn : (cs.map Prod.fst).Nodup) (left : ByteArray → Bool) : ((csL cs left).map Prod.fst).Nodup := by
  unfold csL
  rw [List.map_filterMap]
  have : ∀ l : Counts, (l.map Prod.fst).Nodup → (List.filterMap (fun x => Option.map Prod.fst (hv left x)) l).Nodup ∧ ∀ a ∈ List.filterMap (fun x => Option.map Prod.fst (hv left x)) l, a ∈ l.map Prod.fst := by
    intro l
    induction l with
    | nil => intro _; simp
    | cons p r ih =>
      intro h
      rw [List.map_cons, List.nodup_cons] at h
      obtain ⟨i1, i2⟩ := ih h.2
      rcases hq : hv left p with _ | q
      · rw [List.filterMap_cons_none (by rw [hq]; rfl)]
        exact ⟨i1, fun a ha => List.mem_cons_of_mem _ (i2 a ha)⟩
      · have hk := hv_key hq
        rw [List.filterMap_cons_some (b := p.1) (by rw [hq]; simp [hk])]
        refine ⟨List.nodup_cons.2 ⟨fun ha => h.1 (i2 _ ha), i1⟩, fun a ha => ?_⟩
        rcases List.mem_cons.1 ha with rfl | ha
        · simp
        · exact List.mem_cons_of_mem _ (i2 a ha)
  exact (this cs hn).1
theorem csL_bound {cs : Counts} {left : ByteArray → Bool} {B : Nat} (h : ∀ p ∈ cs, p.1.size ≤ B ∧ p.2 ≤ 15) : ∀ p ∈ csL cs left, p.1.size ≤ B ∧ p.2 ≤ 15 := by
  intro p hp
  obtain ⟨q, hq, e⟩ := List.mem_filterMap.1 hp
  have hb := h q hq
  unfold hv at e
  split at e
  · cases e; exact hb
  · split at e
    · cases e; exact ⟨hb.1, by simp only; omega⟩
    · cases e
end Go.Proofs.Cch
namespace Go.Proofs.Ytplahkhohhbgaaa
end Go.Proofs.Ytplahkhohhbgaaa
