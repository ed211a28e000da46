/-
  Package cache: halve.
-/
import Derived.Test.YtplahkhohhbgaaaCacheHalf
namespace Go.Proofs.Cch
theorem delC_length {cs : Counts} (hn : (cs.map Prod.fst).Nodup) (s : ByteArray) : (delC cs s).length + (if hasC cs s = true then 1 else 0) = cs.length := by
  induction cs with
  | nil => rfl
  | cons p r ih =>
    rw [List.map_cons, List.nodup_cons] at hn
    have h := ih hn.2
    by_cases e : p.1 = s
    · have h1 : hasC r s = false := by
        rcases hc : hasC r s with _ | _
        · rfl
        · obtain ⟨c, hc⟩ := hasC_iff.1 hc
          exact absurd (List.mem_map.2 ⟨_, hc, e.symm⟩) hn.1
      have h2 : hasC (p :: r) s = true := by unfold hasC; simp [e]
      have h3 : delC (p :: r) s = delC r s := by unfold delC; rw [List.filter_cons_of_neg (by simp [e])]
      rw [h1] at h
      rw [h2, h3]
      simp at h ⊢
      omega
    · have h2 : hasC (p :: r) s = hasC r s := by unfold hasC; simp [e]
      have h3 : delC (p :: r) s = p :: delC r s := by unfold delC; rw [List.filter_cons_of_pos (by simp [e])]
      rw [h2, h3, List.length_cons, List.length_cons, ← h]
      omega
theorem hasC_del {cs : Counts} {s t : ByteArray} : hasC (delC cs s) t = (hasC cs t && !decide (t = s)) := by
  rw [Bool.eq_iff_iff, hasC_iff, Bool.and_eq_true, hasC_iff]
  unfold delC
  constructor
  · rintro ⟨c, h⟩
    obtain ⟨h1, h2⟩ := List.mem_filter.1 h
    exact ⟨⟨c, h1⟩, by simpa using h2⟩
  · rintro ⟨⟨c, h1⟩, h2⟩
    exact ⟨c, List.mem_filter.2 ⟨h1, by simpa using h2⟩⟩
end Go.Proofs.Cch
namespace Go.Proofs.Ytplahkhohhbgaaa
open Go.RowKit Go.Proofs.Cch
open Go.Maps (Keyed)
set_option linter.unusedVariables false
set_option linter.unusedSimpArgs false
/-- A map's datum reads as these counts. -/
def Vw (D : DataW Unit) (cs : Counts) : Prop := (∀ s, Maps.has D (kl s) = hasC cs s) ∧ (∀ p ∈ cs, ∀ z, D.atKey (kl p.1) z = .lit (.int .i64 (p.2 : Int))) ∧ Maps.size D = cs.length
theorem Vw.put {D : DataW Unit} {cs : Counts} (h : Vw D cs) (ht : Maps.Tidy D) (s : ByteArray) (c : Nat) : Vw (D.put (kl s) (.lit (.int .i64 (c : Int)))) (putC cs s c) := by
  obtain ⟨hh, ha, hz⟩ := h
  refine ⟨?_, ?_, by rw [Maps.size_put ht, hh, hz, putC_length]⟩
  · intro t
    rw [hasC_put]
    by_cases e : s = t
    · subst e
      rw [show Maps.has (D.put (kl s) _) (kl s) = true from Maps.has_put_same ht.isMap (kl_key s) _]
      simp
    · rw [show Maps.has (D.put (kl s) _) (kl t) = Maps.has D (kl t) from Maps.has_put_other (fun h => e (kl_inj h).symm) _, hh]
      simp [e]
  · intro p hp z
    rcases mem_put hp with rfl | ⟨h1, h2⟩
    · exact Maps.atKey_put_same ht.isMap (kl_key s) _ _
    · rw [show (D.put (kl s) _).atKey (kl p.1) z = D.atKey (kl p.1) z from Maps.atKey_put_other (fun h => h2 (kl_inj h)) _ _]
      exact ha p h1 z
theorem Vw.del {D : DataW Unit} {cs : Counts} (h : Vw D cs) (ht : Maps.Tidy D) (hn : (cs.map Prod.fst).Nodup) (s : ByteArray) : Vw (D.del (kl s)) (delC cs s) := by
  obtain ⟨hh, ha, hz⟩ := h
  refine ⟨?_, ?_, ?_⟩
  · intro t
    rw [hasC_del]
    by_cases e : t = s
    · subst e
      rw [Maps.has_del_same]
      simp
    · rw [Maps.has_del_other (fun h => e (kl_inj h)), hh]
      simp [e]
  · intro p hp z
    obtain ⟨h1, h2⟩ := List.mem_filter.1 hp
    have h3 : ¬ p.1 = s := by simpa using h2
    rw [Maps.atKey_del_other (fun h => h3 (kl_inj h))]
    exact ha p h1 z
  · have h1 := Maps.size_del (k := kl s) ht
    have h2 := delC_length hn s
    rw [hh, hz] at h1
    omega
theorem Mp.of_vw {w : World} {m n : Nat} {D : DataW Unit} {cs : Counts} (h : w.ownsMap Try.prog 9 (plainElem Try.prog 3) m n D) (hv : Vw D cs) (hb : ∀ p ∈ cs, p.1.size ≤ maxLen ∧ p.2 ≤ 15) (hn : (cs.map Prod.fst).Nodup) : Mp w m cs :=
  ⟨D, by rw [← hv.2.2]; exact own_tight h, hb, hn, hv.1, hv.2.1, hv.2.2⟩
theorem key_inv {key : Value} {l : Lit} (h : keyOf Try.prog 9 key = some l) : ∃ x : ByteArray, key = .string x := by
  simp only [keyOf, Try.underlying9] at h
  cases key <;> simp [mapKey, Try.underlying9] at h
  exact ⟨_, rfl⟩
theorem val_inv {v : Value} {y : DataW Unit × List MemPlace} (h : plainElem Try.prog 3 v = some y) : ∃ c : Int, v = .int .i64 c := by
  obtain ⟨a, rfl, _⟩ := plainElem_int_inv Try.underlying3 h
  exact ⟨a, rfl⟩
end Go.Proofs.Ytplahkhohhbgaaa
