/-
  Cache, on plain lists: how many keys are counted; that what is there was offered.
-/
import Derived.Test.YtplahkhohhbgaaaCacheLastW
namespace Go.Proofs.Cch
def sumC (cs : Counts) : Nat := (cs.map Prod.snd).sum
theorem sum_put {cs : Counts} (hn : (cs.map Prod.fst).Nodup) (s : ByteArray) (c : Nat) : sumC (putC cs s c) + cntAt cs s = sumC cs + c := by
  induction cs with
  | nil => simp [putC, hasC, sumC, cntAt]
  | cons p r ih =>
    obtain ⟨x, n⟩ := p
    rw [List.map_cons, List.nodup_cons] at hn
    by_cases e : x = s
    · subst e
      have h1 : hasC ((x, n) :: r) x = true := by simp [hasC]
      have h2 : ∀ q ∈ r, (if q.1 = x then (q.1, c) else q) = q := fun q hq => by
        rw [if_neg]
        intro e
        exact hn.1 (by rw [← e]; exact List.mem_map.2 ⟨q, hq, rfl⟩)
      have h3 : r.map (fun q => if q.1 = x then (q.1, c) else q) = r := by
        conv => rhs; rw [← List.map_id r]
        exact List.map_congr_left h2
      unfold putC
      rw [if_pos h1, List.map_cons, h3]
      simp [sumC, cntAt]
      omega
    · have ih := ih hn.2
      have h1 : hasC ((x, n) :: r) s = hasC r s := by simp [hasC, e]
      have h2 : cntAt ((x, n) :: r) s = cntAt r s := by simp [cntAt, e]
      rw [h2]
      unfold putC at ih ⊢
      rw [h1]
      split <;> rename_i hh
      · rw [if_pos hh] at ih
        rw [List.map_cons, if_neg e]
        simp only [sumC, List.map_cons, List.sum_cons] at ih ⊢
        omega
      · rw [if_neg hh] at ih
        simp only [sumC, List.map_cons, List.sum_cons, List.cons_append] at ih ⊢
        omega
theorem sum_halved (cs : Counts) : 2 * sumC (halvedC cs) ≤ sumC cs := by
  unfold halvedC csL
  induction cs with
  | nil => simp [sumC]
  | cons p r ih =>
    obtain ⟨x, n⟩ := p
    rcases h : hv (fun _ => false) (x, n) with _ | q
    · rw [List.filterMap_cons_none h]
      simp only [sumC, List.map_cons, List.sum_cons] at ih ⊢
      omega
    · rw [List.filterMap_cons_some h]
      unfold hv at h
      simp only [Bool.false_eq_true, if_false] at h
      split at h
      · cases h
        simp only [sumC, List.map_cons, List.sum_cons] at ih ⊢
        omega
      · cases h
theorem len_sum {cs : Counts} (h : ∀ p ∈ cs, 1 ≤ p.2) : cs.length ≤ sumC cs := by
  induction cs with
  | nil => simp
  | cons p r ih =>
    have h1 := h p (by simp)
    have h2 := ih (fun q hq => h q (by simp [hq]))
    simp only [sumC, List.map_cons, List.sum_cons, List.length_cons] at h2 ⊢
    omega
/-- How high all is counted, between two halvings. -/
structure Low (sz ask : Nat) (cs : Counts) : Prop where
  sum : sumC cs ≤ 10 * sz + ask
  pos : ∀ p ∈ cs, 1 ≤ p.2
  ask : sz = 0 ∨ ask < 10 * sz
  nil : sz = 0 → cs = []
theorem Low.start (sz : Nat) : Low sz 0 [] := ⟨by simp [sumC], by simp, by omega, fun _ => rfl⟩
theorem Low.len {sz ask : Nat} {cs : Counts} (h : Low sz ask cs) : cs.length ≤ 20 * sz := by
  have h1 := len_sum h.pos
  have h2 := h.sum
  rcases h.ask with e | e
  · rw [h.nil e]; simp
  · omega
theorem Low.get {sz ask : Nat} {cs : Counts} (h : Low sz ask cs) (hn : (cs.map Prod.fst).Nodup) (ts : Things) (key : ByteArray) : Low sz (getF sz ts cs ask key).2.2 (getF sz ts cs ask key).2.1 := by
  unfold getF
  by_cases hz : sz = 0
  · rw [if_pos hz]; exact h
  · rw [if_neg hz]
    have ha : ask < 10 * sz := by rcases h.ask with e | e <;> omega
    have h1 := sum_put hn key (min (cntAt cs key + 1) 15)
    have h2 := h.sum
    have hp : ∀ p ∈ putC cs key (min (cntAt cs key + 1) 15), 1 ≤ p.2 := fun p hp => by
      rcases mem_put hp with rfl | ⟨hm, _⟩
      · simp only; omega
      · exact h.pos p hm
    split
    · next e =>
      have h3 := sum_halved (putC cs key (min (cntAt cs key + 1) 15))
      refine ⟨by simp only; omega, fun p hp2 => ?_, by simp only; omega, fun e => absurd e hz⟩
      obtain ⟨q, hq, e⟩ := List.mem_filterMap.1 hp2
      unfold hv at e
      simp only [Bool.false_eq_true, if_false] at e
      split at e
      · cases e; simp only; omega
      · cases e
    · refine ⟨by simp only; omega, hp, by simp only; omega, fun e => absurd e hz⟩
/-- All things are among those of a list. -/
def From (ts : Things) (l : Things) : Prop := ∀ t ∈ ts, t ∈ l
theorem From.mono {ts l l' : Things} (h : From ts l) (k : ∀ t ∈ l, t ∈ l') : From ts l' := fun t ht => k t (h t ht)
theorem From.offer {ts l : Things} (h : From ts l) (sz : Nat) (cs : Counts) (key value : ByteArray) (hm : (key, value) ∈ l) : From (offerF sz ts cs key value).1 l := by
  have he : ∀ k, From ((key, value) :: ts.eraseIdx k) l := fun k t ht => by
    rcases List.mem_cons.1 ht with rfl | ht
    · exact hm
    · exact h t ((List.eraseIdx_sublist _ _).subset ht)
  have hc : From ((key, value) :: ts) l := fun t ht => by
    rcases List.mem_cons.1 ht with rfl | ht
    · exact hm
    · exact h t ht
  unfold offerF
  split
  · split
    · split
      · split
        · exact h
        · exact he _
      · exact h
    · exact hc
  · exact he _
theorem From.forget {ts l : Things} (h : From ts l) (key : ByteArray) : From (forgetF ts key).1 l := by
  unfold forgetF
  split
  · exact h
  · exact fun t ht => h t ((List.eraseIdx_sublist _ _).subset ht)
end Go.Proofs.Cch
namespace Go.Proofs.Ytplahkhohhbgaaa
open Go.Proofs.Cch
theorem From.use {ts l : Things} (h : From ts l) (key : ByteArray) : From (useF ts key).1 l ∧ ((useF ts key).2.2 = true → (key, (useF ts key).2.1) ∈ l) ∧ ((useF ts key).2.2 = false → (useF ts key).2.1 = ⟨#[]⟩) := by
  rcases placeOf_cases ts key with ⟨e, _⟩ | ⟨k, t, e, ht, hk, _⟩
  · rw [useF_miss e]
    exact ⟨h, (fun h => by cases h), fun _ => rfl⟩
  · rw [useF_hit e ht]
    have htm := List.mem_of_getElem? ht
    refine ⟨fun x hx => ?_, fun _ => ?_, fun h => by cases h⟩
    · rcases List.mem_cons.1 hx with rfl | hx
      · exact h _ htm
      · exact h x ((List.eraseIdx_sublist _ _).subset hx)
    · have := h t htm
      obtain ⟨t1, t2⟩ := t
      simp only at hk
      subst hk
      exact this
theorem From.get {ts l : Things} (h : From ts l) (sz : Nat) (cs : Counts) (ask : Nat) (key : ByteArray) : From (getF sz ts cs ask key).1 l ∧ ((gotF sz ts key).2 = true → (key, (gotF sz ts key).1) ∈ l) ∧ ((gotF sz ts key).2 = false → (gotF sz ts key).1 = ⟨#[]⟩) := by
  unfold getF gotF
  by_cases hz : sz = 0
  · rw [if_pos hz, if_pos hz]
    exact ⟨h, (fun h => by cases h), fun _ => rfl⟩
  · rw [if_neg hz, if_neg hz]
    have hu := From.use h key
    refine ⟨?_, hu.2⟩
    split <;> exact hu.1
/-- What was offered by acts. -/
def offered (l : List Wish) : Things := (l.filter (fun a => a.k = 1)).map (fun a => (a.key, a.value))
theorem offered_snoc (l : List Wish) (a : Wish) : offered (l ++ [a]) = offered l ++ if a.k = 1 then [(a.key, a.value)] else [] := by
  unfold offered
  rw [List.filter_append, List.map_append]
  by_cases h : a.k = 1 <;> simp [h]
/-- Was a thing offered? -/
def hitW (key v : ByteArray) (l : List Wish) : Bool := l.any (fun a => decide (a.k = 1) && decide (a.key = key) && decide (a.value = v))
theorem hitW_snoc (key v : ByteArray) (l : List Wish) (a : Wish) : hitW key v (l ++ [a]) = (hitW key v l || (decide (a.k = 1) && decide (a.key = key) && decide (a.value = v))) := by
  unfold hitW
  simp
theorem hitW_mem {key v : ByteArray} {l : List Wish} (h : (key, v) ∈ offered l) : hitW key v l = true := by
  obtain ⟨a, ha, e⟩ := List.mem_map.1 h
  rw [List.mem_filter] at ha
  cases e
  exact List.any_eq_true.2 ⟨a, ha.1, by simpa using ha.2⟩
end Go.Proofs.Ytplahkhohhbgaaa
