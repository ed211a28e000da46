/-
  How often keys are counted: a map, as a row of keys and counts.
-/
import Derived.Test.YtplahkhohhbgaaaFar
import Derived.Maps.Own
import Derived.Maps.OwnOps
import Derived.Maps.OwnSet
import Derived.Maps.Views
import Derived.StringKeys
namespace Go.Proofs.Cch
/-- Keys, and how high they are counted. -/
abbrev Counts := List (ByteArray × Nat)
def cntAt (cs : Counts) (s : ByteArray) : Nat := ((cs.find? (fun p => p.1 = s)).map Prod.snd).getD 0
def hasC (cs : Counts) (s : ByteArray) : Bool := cs.any (fun p => p.1 = s)
def putC (cs : Counts) (s : ByteArray) (c : Nat) : Counts := if hasC cs s then cs.map (fun p => if p.1 = s then (p.1, c) else p) else cs ++ [(s, c)]
def delC (cs : Counts) (s : ByteArray) : Counts := cs.filter (fun p => ¬ p.1 = s)
theorem hasC_iff {cs : Counts} {s : ByteArray} : hasC cs s = true ↔ ∃ c, (s, c) ∈ cs := by
  unfold hasC
  rw [List.any_eq_true]
  constructor
  · rintro ⟨⟨a, c⟩, h, e⟩
    simp at e
    subst e
    exact ⟨c, h⟩
  · rintro ⟨c, h⟩
    exact ⟨_, h, by simp⟩
theorem cntAt_mem {cs : Counts} (hn : (cs.map Prod.fst).Nodup) {s : ByteArray} {c : Nat} (h : (s, c) ∈ cs) : cntAt cs s = c := by
  unfold cntAt
  induction cs with
  | nil => cases h
  | cons p t ih =>
    rw [List.map_cons, List.nodup_cons] at hn
    rw [List.find?_cons]
    by_cases e : p.1 = s
    · rcases List.mem_cons.1 h with h | h
      · subst h; simp
      · exact absurd (List.mem_map.2 ⟨(s, c), h, e.symm⟩) hn.1
    · rcases List.mem_cons.1 h with h | h
      · subst h; exact absurd rfl e
      · simp only [e, decide_false]
        exact ih hn.2 h
theorem cntAt_none {cs : Counts} {s : ByteArray} (h : hasC cs s = false) : cntAt cs s = 0 := by
  unfold cntAt
  rw [List.find?_eq_none.2]
  · rfl
  · intro p hp e
    have : hasC cs s = true := by unfold hasC; rw [List.any_eq_true]; exact ⟨p, hp, e⟩
    rw [h] at this
    cases this
theorem putC_keys {cs : Counts} {s : ByteArray} {c : Nat} : (putC cs s c).map Prod.fst = if hasC cs s then cs.map Prod.fst else cs.map Prod.fst ++ [s] := by
  unfold putC
  split
  · rw [List.map_map]
    refine List.map_congr_left (fun p _ => ?_)
    simp only [Function.comp]
    split <;> rfl
  · simp
theorem putC_length {cs : Counts} {s : ByteArray} {c : Nat} : (putC cs s c).length = if hasC cs s then cs.length else cs.length + 1 := by
  unfold putC
  split <;> simp
theorem hasC_key {l : Counts} {t : ByteArray} : hasC l t = true ↔ t ∈ l.map Prod.fst := by
  rw [hasC_iff, List.mem_map]
  exact ⟨fun ⟨c, h⟩ => ⟨_, h, rfl⟩, fun ⟨p, h, e⟩ => ⟨p.2, by rw [← e]; exact h⟩⟩
theorem hasC_put {cs : Counts} {s t : ByteArray} {c : Nat} : hasC (putC cs s c) t = (decide (s = t) || hasC cs t) := by
  rw [Bool.eq_iff_iff, hasC_key (l := putC cs s c), putC_keys, Bool.or_eq_true, decide_eq_true_iff, hasC_key (l := cs) (t := t)]
  split
  · next h =>
    rw [hasC_key] at h
    constructor
    · exact .inr
    · rintro (e | h2)
      · rw [← e]; exact h
      · exact h2
  · rw [List.mem_append, List.mem_singleton]
    constructor
    · rintro (h | h)
      · exact .inr h
      · exact .inl h.symm
    · rintro (h | h)
      · exact .inr h.symm
      · exact .inl h
theorem mem_put {cs : Counts} {s : ByteArray} {c : Nat} {p : ByteArray × Nat} (h : p ∈ putC cs s c) : p = (s, c) ∨ (p ∈ cs ∧ p.1 ≠ s) := by
  unfold putC at h
  split at h
  · obtain ⟨q, hq, e⟩ := List.mem_map.1 h
    by_cases h2 : q.1 = s
    · rw [if_pos h2] at e
      subst e
      exact .inl (by rw [← h2])
    · rw [if_neg h2] at e
      subst e
      exact .inr ⟨hq, h2⟩
  · next hno =>
    rcases List.mem_append.1 h with h | h
    · refine .inr ⟨h, fun e => hno (hasC_iff.2 ⟨p.2, by rw [← e]; exact h⟩)⟩
    · simp at h
      exact .inl h
theorem nodup_put {cs : Counts} {s : ByteArray} {c : Nat} (h : (cs.map Prod.fst).Nodup) : ((putC cs s c).map Prod.fst).Nodup := by
  rw [putC_keys]
  split
  · exact h
  · next hno =>
    rw [List.nodup_append]
    refine ⟨h, by simp, ?_⟩
    intro a ha b hb e
    simp at hb
    subst hb
    subst e
    obtain ⟨p, hp, e⟩ := List.mem_map.1 ha
    exact hno (hasC_iff.2 ⟨p.2, by rw [← e]; exact hp⟩)
end Go.Proofs.Cch
namespace Go.Proofs.Ytplahkhohhbgaaa
open Go.RowKit Go.Proofs.Cch
open Go.Maps (Keyed)
set_option linter.unusedVariables false
set_option linter.unusedSimpArgs false
theorem zeroInt (w : World) : (zeroValue 3).run Try.prog w = .ok (.int .i64 0) w := by kernel_rfl
theorem strKeyed : Keyed Try.prog 9 := Go.Maps.string_keyed Try.underlying9
/-- A key, as it reads. -/
def kl (s : ByteArray) : Lit := .string s.data.toList
theorem kl_inj {s t : ByteArray} (h : kl s = kl t) : s = t := by
  have : s.data.toList = t.data.toList := by injection h
  exact ByteArray.ext (Array.toList_inj.1 this)
theorem kl_key (s : ByteArray) : WideAt.IsKeyLit (kl s) := trivial
/-- Block m is a map of these counts. -/
def Mp (w : World) (m : Nat) (cs : Counts) : Prop :=
  ∃ D : DataW Unit, w.ownsMap Try.prog 9 (plainElem Try.prog 3) m cs.length D ∧ (∀ p ∈ cs, p.1.size ≤ maxLen ∧ p.2 ≤ 15) ∧ (cs.map Prod.fst).Nodup ∧
    (∀ s, Maps.has D (kl s) = hasC cs s) ∧ (∀ p ∈ cs, ∀ z, D.atKey (kl p.1) z = .lit (.int .i64 (p.2 : Int))) ∧ Maps.size D = cs.length
theorem own_tight {w : World} {m n : Nat} {D : DataW Unit} (h : w.ownsMap Try.prog 9 (plainElem Try.prog 3) m n D) : w.ownsMap Try.prog 9 (plainElem Try.prog 3) m (Maps.size D) D := by
  obtain ⟨es, clock, hb, F, hs, rfl⟩ := h
  refine ⟨es, clock, hb, F, ?_, rfl⟩
  rw [Maps.size_eq, length_sorted]
  simp
theorem Mp.lt {w : World} {m : Nat} {cs : Counts} (h : Mp w m cs) : m < w.heap.size := by
  obtain ⟨D, h, _⟩ := h
  exact h.lt
theorem Mp.far {S : Nat → Prop} {w w' : World} {m : Nat} {cs : Counts} (h : Mp w m cs) (k : Far S w w') (hm : ¬ S m) : Mp w' m cs := by
  obtain ⟨D, ⟨es, clock, hb, F, hs, hD⟩, r⟩ := h
  exact ⟨D, ⟨es, clock, (k.block m (Array.getElem?_eq_some_iff.1 hb).1 hm).trans hb, F, hs, hD⟩, r⟩
theorem Mp.below {w w' : World} {m : Nat} {cs : Counts} (h : Mp w m cs) (k : Below w.heap.size w w') : Mp w' m cs :=
  h.far (S := fun _ => False) ⟨k.os, k.tape, k.output, k.size, fun i hi _ => k.block i hi⟩ (fun h => h)
theorem Mp.new (w : World) : Mp (w.alloc (.map #[] 0)) w.heap.size [] :=
  ⟨_, World.ownsMap_made w _ _ _, by simp, by simp, fun s => rfl, by simp, rfl⟩
theorem Mp.look {w : World} {m : Nat} {cs : Counts} (h : Mp w m cs) (s : ByteArray) (hs : s.size ≤ maxLen) :
    (Instr.lookup 73 (.map (some m)) (.string s) false).run Try.prog w = .ok (.int .i64 (cntAt cs s : Int)) w := by
  obtain ⟨D, h, _, hn, hh, ha, _⟩ := h
  obtain ⟨c, hrun, hat, hw⟩ := h.lookup_int strKeyed Try.underlying73 Try.underlying3 (zeroInt w) (Go.WideMaps.keyOf_string_mk Try.underlying9 hs)
  rw [hrun]
  have hat' : D.atKey (kl s) (.lit (.int .i64 0)) = .lit (.int .i64 c) := hat
  rcases hc : hasC cs s with _ | _
  · rw [Maps.atKey_of_not_has (by rw [hh, hc])] at hat'
    rw [cntAt_none hc]
    simp only [DataW.lit.injEq, Lit.int.injEq, true_and] at hat'
    rw [← hat']; rfl
  · obtain ⟨c', hm⟩ := hasC_iff.1 hc
    rw [ha _ hm] at hat'
    rw [cntAt_mem hn hm]
    simp only [DataW.lit.injEq, Lit.int.injEq, true_and] at hat'
    rw [← hat']
theorem Mp.len {w : World} {m : Nat} {cs : Counts} (h : Mp w m cs) (ty : TypeId) : (Builtin.len_ #[73] ty #[.map (some m)]).run Try.prog w = .ok (.int .i64 (cs.length : Int)) w := by
  obtain ⟨D, h, _, _, _, _, hz⟩ := h
  rw [h.len Try.underlying73 ty, hz]
theorem Mp.put {w : World} {m : Nat} {cs : Counts} (h : Mp w m cs) (s : ByteArray) (hs : s.size ≤ maxLen) (c : Nat) (hc : c ≤ 15) (hl : cs.length < maxLen) :
    ∃ w', (Instr.mapUpdate 73 (.map (some m)) (.string s) (.int .i64 (c : Int))).run Try.prog w = .ok () w' ∧ Mp w' m (putC cs s c) ∧ w.grownBy w' (some m) := by
  obtain ⟨D, h, hb, hn, hh, ha, hz⟩ := h
  obtain ⟨w', hrun, hown, hg⟩ := h.update (val := .int .i64 (c : Int)) strKeyed Try.underlying73 hl (Go.WideMaps.keyOf_string_mk Try.underlying9 hs) (plainElem_int Try.underlying3 (WalkArith.wf_i64 (by omega)))
  have ht := h.tidy strKeyed
  have hput : Maps.size (D.put (kl s) (.lit (.int .i64 (c : Int)))) = (putC cs s c).length := by
    rw [Maps.size_put ht, hh, hz, putC_length]
  have hown' := own_tight hown
  refine ⟨w', hrun, ⟨_, by rw [← hput]; exact hown', ?_, nodup_put hn, ?_, ?_, hput⟩, hg⟩
  · intro p hp
    rcases mem_put hp with rfl | ⟨h1, _⟩
    · exact ⟨hs, hc⟩
    · exact hb p h1
  · intro t
    rw [hasC_put]
    by_cases e : s = t
    · subst e
      rw [show Maps.has (D.put (kl s) _) (kl s) = true from Maps.has_put_same h.isMap (kl_key s) _]
      simp
    · rw [show Maps.has (D.put (kl s) _) (kl t) = Maps.has D (kl t) from Maps.has_put_other (fun h => e (kl_inj h).symm) _, hh]
      simp [e]
  · intro p hp z
    rcases mem_put hp with rfl | ⟨h1, h2⟩
    · exact Maps.atKey_put_same h.isMap (kl_key s) _ _
    · rw [show (D.put (kl s) _).atKey (kl p.1) z = D.atKey (kl p.1) z from Maps.atKey_put_other (fun h => h2 (kl_inj h)) _ _]
      exact ha p h1 z
end Go.Proofs.Ytplahkhohhbgaaa
