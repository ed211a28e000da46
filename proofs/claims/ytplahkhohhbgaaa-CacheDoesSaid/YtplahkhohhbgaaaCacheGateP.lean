/-
  The walk of the law CacheGate.
-/
import Derived.Test.YtplahkhohhbgaaaCacheHitsW
namespace Go.Proofs.Cch
theorem place_in {ts : Things} {key : ByteArray} : key ∈ keysF ts ↔ placeOf ts key ≠ -1 := by
  rcases placeOf_cases ts key with ⟨e, h⟩ | ⟨k, t, e, ht, hk, _⟩
  · rw [e]
    exact ⟨fun hm => absurd hm (not_key h), fun h => absurd rfl h⟩
  · refine ⟨fun _ => by omega, fun _ => ?_⟩
    rw [← hk]
    exact List.mem_of_getElem? (keysF_at ht)
/-- What is not taken: all is full, and nothing is counted lower. -/
theorem offer_not {sz : Nat} {ts : Things} {cs : Counts} {key value : ByteArray} (h : (offerF sz ts cs key value).2 = false) (_hl : ts.length ≤ sz) :
    (offerF sz ts cs key value).1 = ts ∧ (keysF ts = [] ∨ ∃ x, (keysF ts)[(keysF ts).length - 1]? = some x ∧ cntAt cs key ≤ cntAt cs x) := by
  have hm := (offer_miss h).2
  refine ⟨(offer_miss h).1, ?_⟩
  revert h
  unfold offerF
  rw [if_pos hm]
  intro h
  split at h
  · next hs =>
    split at h
    · next t ht =>
      split at h
      · next hc =>
        refine .inr ⟨t.1, ?_, hc⟩
        have := keysF_at ht
        rw [← hs] at this
        unfold keysF at this ⊢
        rw [List.length_map]
        exact this
      · cases h
    · next ht =>
      refine .inl ?_
      rw [List.getElem?_eq_none_iff] at ht
      have : ts = [] := List.length_eq_zero_iff.1 (by omega)
      rw [this]
      rfl
  · cases h
/-- What was there stays, but for the last one, that is counted lower. -/
theorem offer_keeps {sz : Nat} {ts : Things} {cs : Counts} {key value : ByteArray} (h : (offerF sz ts cs key value).2 = true) (i : Nat) (x : ByteArray) (hx : (keysF ts)[i]? = some x) :
    x ∈ keysF (offerF sz ts cs key value).1 ∨ (i + 1 = (keysF ts).length ∧ cntAt cs x < cntAt cs key) := by
  have hxm := List.mem_of_getElem? hx
  have hlen : (keysF ts).length = ts.length := by unfold keysF; rw [List.length_map]
  have hil : i < ts.length := by have := (List.getElem?_eq_some_iff.1 hx).1; omega
  have er : ∀ k, k ≠ i → x ∈ keysF (ts.eraseIdx k) := fun k hk => by
    rw [keysF_erase]
    refine List.mem_of_getElem? (i := if i < k then i else i - 1) ?_
    rw [List.getElem?_eraseIdx]
    split
    · exact hx
    · rw [show i - 1 + 1 = i by omega]
      split
      · omega
      · exact hx
  revert h
  unfold offerF
  split
  · split
    · next hs =>
      split
      · next t ht =>
        split
        · intro h; cases h
        · next hc =>
          intro _
          by_cases e : sz - 1 = i
          · have h1 := keysF_at ht
            rw [e, hx] at h1
            cases h1
            exact .inr ⟨by omega, by omega⟩
          · exact .inl (List.mem_cons_of_mem _ (er _ e))
      · intro h; cases h
    · intro _
      exact .inl (List.mem_cons_of_mem _ hxm)
  · next hp =>
    intro _
    rcases placeOf_cases ts key with ⟨e, _⟩ | ⟨k, t, e, ht, hk, _⟩
    · exact absurd e hp
    · rw [e, Int.toNat_natCast]
      by_cases e2 : k = i
      · have h1 := keysF_at ht
        rw [e2, hx] at h1
        cases h1
        exact .inl (by rw [hk]; exact List.mem_cons_self)
      · exact .inl (List.mem_cons_of_mem _ (er _ e2))
/-- Whether something is in a list. -/
def inB (x : ByteArray) (l : List ByteArray) : Bool := l.any (fun y => decide (y = x))
theorem inB_iff {x : ByteArray} {l : List ByteArray} : inB x l = true ↔ x ∈ l := by
  unfold inB
  simp
theorem inB_snoc (x y : ByteArray) (l : List ByteArray) : inB x (l ++ [y]) = (inB x l || decide (y = x)) := by
  unfold inB
  simp
end Go.Proofs.Cch
namespace Go.Proofs.Ytplahkhohhbgaaa
end Go.Proofs.Ytplahkhohhbgaaa
