/-
  Cache, on plain lists: no key is there twice; what Offer, Get, Forget make of the keys.
-/
import Derived.Test.YtplahkhohhbgaaaCacheFew
namespace Go.Proofs.Cch
theorem erase_filter : ∀ (l : List ByteArray) (k : Nat) (x : ByteArray), l.Nodup → l[k]? = some x → l.eraseIdx k = l.filter (fun y => ¬ y = x)
  | [], _, _, _, h => by simp at h
  | a :: r, 0, x, hn, h => by
    simp at h
    subst h
    rw [List.nodup_cons] at hn
    rw [List.eraseIdx_cons_zero, List.filter_cons_of_neg (by simp), List.filter_eq_self.2]
    intro y hy
    have : ¬ y = a := fun e => hn.1 (by rw [← e]; exact hy)
    simpa using this
  | a :: r, k + 1, x, hn, h => by
    rw [List.nodup_cons] at hn
    have h1 : r[k]? = some x := by simpa using h
    have hne : ¬ a = x := fun e => hn.1 (by rw [e]; exact List.mem_of_getElem? h1)
    rw [List.eraseIdx_cons_succ, List.filter_cons_of_pos (by simpa using hne), erase_filter r k x hn.2 h1]
theorem keysF_erase (ts : Things) (k : Nat) : keysF (ts.eraseIdx k) = (keysF ts).eraseIdx k := by
  unfold keysF
  rw [List.eraseIdx_eq_take_drop_succ, List.eraseIdx_eq_take_drop_succ, List.map_append, List.map_take, List.map_drop]
theorem keysF_at {ts : Things} {k : Nat} {t : ByteArray × ByteArray} (h : ts[k]? = some t) : (keysF ts)[k]? = some t.1 := by unfold keysF; rw [List.getElem?_map, h]; rfl
theorem not_key {ts : Things} {key : ByteArray} (h : ∀ (j : Nat) (t : ByteArray × ByteArray), ts[j]? = some t → t.1 ≠ key) : key ∉ keysF ts := by
  intro hm
  obtain ⟨t, ht, e⟩ := List.mem_map.1 hm
  obtain ⟨j, hj⟩ := List.getElem?_of_mem ht
  exact h j t hj e
/-- What is forgotten is not there; all else stays. -/
theorem forget_keys {ts : Things} {key : ByteArray} (hn : (keysF ts).Nodup) : keysF (forgetF ts key).1 = (keysF ts).filter (fun y => ¬ y = key) ∧ ((forgetF ts key).2 = true ↔ key ∈ keysF ts) := by
  unfold forgetF
  rcases placeOf_cases ts key with ⟨e, h⟩ | ⟨k, t, e, ht, hk, _⟩
  · rw [e, if_pos rfl]
    have hno := not_key h
    refine ⟨?_, by simp [hno]⟩
    rw [List.filter_eq_self.2]
    intro y hy
    have : ¬ y = key := fun e => hno (by rw [← e]; exact hy)
    simpa using this
  · rw [e, if_neg (by omega), Int.toNat_natCast]
    have h1 := keysF_at ht
    rw [hk] at h1
    refine ⟨by rw [keysF_erase, erase_filter _ k key hn h1], ?_⟩
    have := List.mem_of_getElem? h1
    simp [this]
theorem nodup_erase {ts : Things} (h : (keysF ts).Nodup) (k : Nat) : (keysF (ts.eraseIdx k)).Nodup := by
  rw [keysF_erase]
  exact h.sublist (List.eraseIdx_sublist _ _)
theorem nodup_forget {ts : Things} (h : (keysF ts).Nodup) (key : ByteArray) : (keysF (forgetF ts key).1).Nodup := by
  unfold forgetF
  split
  · exact h
  · exact nodup_erase h _
theorem nodup_cons_erase {ts : Things} (h : (keysF ts).Nodup) {k : Nat} {t : ByteArray × ByteArray} (ht : ts[k]? = some t) (y : ByteArray) : (keysF ((t.1, y) :: ts.eraseIdx k)).Nodup := by
  show (t.1 :: keysF (ts.eraseIdx k)).Nodup
  refine List.nodup_cons.2 ⟨?_, nodup_erase h k⟩
  rw [keysF_erase, erase_filter _ k t.1 h (keysF_at ht)]
  simp
theorem nodup_offer {ts : Things} (h : (keysF ts).Nodup) (sz : Nat) (cs : Counts) (key value : ByteArray) : (keysF (offerF sz ts cs key value).1).Nodup := by
  unfold offerF
  rcases placeOf_cases ts key with ⟨e, hno⟩ | ⟨k, t, e, ht, hk, _⟩
  · have hk := not_key hno
    rw [e, if_pos rfl]
    split
    · split
      · split
        · exact h
        · show (key :: keysF (ts.eraseIdx (sz - 1))).Nodup
          refine List.nodup_cons.2 ⟨fun hm => hk ?_, nodup_erase h _⟩
          rw [keysF_erase] at hm
          exact (List.eraseIdx_sublist _ _).subset hm
      · exact h
    · exact List.nodup_cons.2 ⟨hk, h⟩
  · rw [e, if_neg (by omega), Int.toNat_natCast]
    have := nodup_cons_erase h ht value
    rw [hk] at this
    exact this
theorem get_counts (sz : Nat) (ts : Things) (cs : Counts) (ask : Nat) (key : ByteArray) : (getF sz ts cs ask key).2.1.length ≤ cs.length + 1 ∧ (getF sz ts cs ask key).2.2 ≤ ask + 1 := by
  have h1 : ∀ c, (putC cs key c).length ≤ cs.length + 1 := fun c => by rw [putC_length]; split <;> omega
  have h2 : ∀ l : Counts, (halvedC l).length ≤ l.length := fun l => List.length_filterMap_le _ _
  unfold getF
  split
  · exact ⟨Nat.le_succ _, Nat.le_succ _⟩
  · split
    · exact ⟨Nat.le_trans (h2 _) (h1 _), by simp⟩
    · exact ⟨h1 _, Nat.le_refl _⟩
end Go.Proofs.Cch
namespace Go.Proofs.Ytplahkhohhbgaaa
open Go.Proofs.Cch
theorem nodup_use {ts : Things} (h : (keysF ts).Nodup) (key : ByteArray) : (keysF (useF ts key).1).Nodup := by
  rcases placeOf_cases ts key with ⟨e, _⟩ | ⟨k, t, e, ht, hk, _⟩
  · rw [useF_miss e]; exact h
  · rw [useF_hit e ht]
    exact nodup_cons_erase h ht t.2
theorem nodup_get {ts : Things} (h : (keysF ts).Nodup) (sz : Nat) (cs : Counts) (ask : Nat) (key : ByteArray) : (keysF (getF sz ts cs ask key).1).Nodup := by
  unfold getF
  split
  · exact h
  · split <;> exact nodup_use h key
end Go.Proofs.Ytplahkhohhbgaaa
