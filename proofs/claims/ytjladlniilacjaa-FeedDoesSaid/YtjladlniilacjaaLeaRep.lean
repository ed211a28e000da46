/-
  Package lease: a table as it lies.
-/
import Derived.Test.YtjladlniilacjaaLeaPlain
namespace Go.Proofs.Ytjladlniilacjaa
open Go.RowKit Go.Proofs.Lea
set_option linter.unusedVariables false
set_option linter.unusedSimpArgs false
/-- A table's cells. -/
def tC (t : Tbl) (vs : Nat → Value) (ve : Value) : Array Value := #[.int .i64 t.most, .int .i64 t.term,
  .int .i64 (t.sl 0).s.id, .int .i64 (t.sl 0).s.block, .int .i64 (t.sl 0).s.dead, .int .i64 (t.sl 0).s.last, vs 0,
  .int .i64 (t.sl 1).s.id, .int .i64 (t.sl 1).s.block, .int .i64 (t.sl 1).s.dead, .int .i64 (t.sl 1).s.last, vs 1,
  .int .i64 (t.sl 2).s.id, .int .i64 (t.sl 2).s.block, .int .i64 (t.sl 2).s.dead, .int .i64 (t.sl 2).s.last, vs 2,
  .int .i64 (t.sl 3).s.id, .int .i64 (t.sl 3).s.block, .int .i64 (t.sl 3).s.dead, .int .i64 (t.sl 3).s.last, vs 3,
  .int .i64 (t.opened : Int), ve]
section
variable (t : Tbl) (vs : Nat → Value) (ve : Value) (k : Nat) (hk : k < 4)
include hk
theorem tC_id : (tC t vs ve)[2 + k * 5]? = some (.int .i64 (t.id k)) := by
  have : k = 0 ∨ k = 1 ∨ k = 2 ∨ k = 3 := by omega
  rcases this with rfl | rfl | rfl | rfl <;> rfl
theorem tC_block : (tC t vs ve)[2 + k * 5 + 1]? = some (.int .i64 (t.sl k).s.block) := by
  have : k = 0 ∨ k = 1 ∨ k = 2 ∨ k = 3 := by omega
  rcases this with rfl | rfl | rfl | rfl <;> rfl
theorem tC_dead : (tC t vs ve)[2 + k * 5 + 2]? = some (.int .i64 (t.sl k).s.dead) := by
  have : k = 0 ∨ k = 1 ∨ k = 2 ∨ k = 3 := by omega
  rcases this with rfl | rfl | rfl | rfl <;> rfl
theorem tC_last : (tC t vs ve)[2 + k * 5 + 3]? = some (.int .i64 (t.sl k).s.last) := by
  have : k = 0 ∨ k = 1 ∨ k = 2 ∨ k = 3 := by omega
  rcases this with rfl | rfl | rfl | rfl <;> rfl
theorem tC_kept : (tC t vs ve)[2 + k * 5 + 4]? = some (vs k) := by
  have : k = 0 ∨ k = 1 ∨ k = 2 ∨ k = 3 := by omega
  rcases this with rfl | rfl | rfl | rfl <;> rfl
end
theorem set_sl (t : Tbl) (h4 : t.slots.length = 4) (k : Nat) (hk : k < 4) (x : Slo) (j : Nat) : (t.set k x).sl j = if j = k then x else t.sl j := by
  unfold Tbl.set Tbl.sl
  by_cases h : j = k
  · subst h; rw [if_pos rfl]; simp [h4, hk]
  · rw [if_neg h]; simp [Ne.symm h]
theorem ends_eq (t t' : Tbl) (vs vs' : Nat → Value) (ve : Value) (h1 : t'.most = t.most) (h2 : t'.term = t.term) (h3 : t'.opened = t.opened) (k : Nat) (hk : k < 4) (hs : ∀ j, j < 4 → j ≠ k → t'.sl j = t.sl j) (hv : ∀ j, j < 4 → j ≠ k → vs' j = vs j) :
    ∀ i, i < 2 + k * 5 ∨ 2 + k * 5 + 5 ≤ i → (tC t' vs' ve)[i]? = (tC t vs ve)[i]? := by
  intro i hi
  have hk4 : k = 0 ∨ k = 1 ∨ k = 2 ∨ k = 3 := by omega
  by_cases h24 : i < 24
  · have hc : i = 0 ∨ i = 1 ∨ i = 22 ∨ i = 23 ∨ (2 ≤ i ∧ i < 7) ∨ (7 ≤ i ∧ i < 12) ∨ (12 ≤ i ∧ i < 17) ∨ (17 ≤ i ∧ i < 22) := by omega
    unfold tC
    rcases hc with rfl | rfl | rfl | rfl | hc | hc | hc | hc
    · simp [h1]
    · simp [h2]
    · simp [h3]
    · simp
    · rw [hs 0 (by omega) (by omega), hv 0 (by omega) (by omega)]
      have : i = 2 ∨ i = 3 ∨ i = 4 ∨ i = 5 ∨ i = 6 := by omega
      rcases this with rfl | rfl | rfl | rfl | rfl <;> rfl
    · rw [hs 1 (by omega) (by omega), hv 1 (by omega) (by omega)]
      have : i = 7 ∨ i = 8 ∨ i = 9 ∨ i = 10 ∨ i = 11 := by omega
      rcases this with rfl | rfl | rfl | rfl | rfl <;> rfl
    · rw [hs 2 (by omega) (by omega), hv 2 (by omega) (by omega)]
      have : i = 12 ∨ i = 13 ∨ i = 14 ∨ i = 15 ∨ i = 16 := by omega
      rcases this with rfl | rfl | rfl | rfl | rfl <;> rfl
    · rw [hs 3 (by omega) (by omega), hv 3 (by omega) (by omega)]
      have : i = 17 ∨ i = 18 ∨ i = 19 ∨ i = 20 ∨ i = 21 := by omega
      rcases this with rfl | rfl | rfl | rfl | rfl <;> rfl
  · rw [Array.getElem?_eq_none (by simp [tC]; omega), Array.getElem?_eq_none (by simp [tC]; omega)]
/-- One cell of a slot is set: what the table is then. -/
theorem tC_set (t : Tbl) (h4 : t.slots.length = 4) (vs vs' : Nat → Value) (ve : Value) (k : Nat) (hk : k < 4) (x : Slo) (c : Nat) (hc : c < 5) (u : Value)
    (hv : ∀ j, j < 4 → j ≠ k → vs' j = vs j)
    (h0 : (tC (t.set k x) vs' ve)[2 + k * 5 + c]? = some u)
    (hr : ∀ d, d < 5 → d ≠ c → (tC (t.set k x) vs' ve)[2 + k * 5 + d]? = (tC t vs ve)[2 + k * 5 + d]?) :
    (tC t vs ve).setIfInBounds (2 + k * 5 + c) u = tC (t.set k x) vs' ve := by
  apply Array.ext_getElem?
  intro i
  rw [Array.getElem?_setIfInBounds]
  have hsz : (tC t vs ve).size = 24 := rfl
  split
  · next e => subst e; rw [if_pos (by rw [hsz]; omega)]; exact h0.symm
  · next e =>
    by_cases hi : i < 2 + k * 5 ∨ 2 + k * 5 + 5 ≤ i
    · exact (ends_eq t (t.set k x) vs vs' ve rfl rfl rfl k hk (fun j _ hj => by rw [set_sl t h4 k hk, if_neg hj]) hv i hi).symm
    · obtain ⟨d, hd⟩ : ∃ d, i = 2 + k * 5 + d := ⟨i - (2 + k * 5), by omega⟩
      subst hd
      exact (hr d (by omega) (by omega)).symm
theorem tC_set_block (t : Tbl) (h4 : t.slots.length = 4) (vs : Nat → Value) (ve : Value) (k : Nat) (hk : k < 4) (b : Int) :
    (tC t vs ve).setIfInBounds (2 + k * 5 + 1) (.int .i64 b) = tC (t.set k ⟨{ (t.sl k).s with block := b }, (t.sl k).kept⟩) vs ve := by
  have hs := set_sl t h4 k hk ⟨{ (t.sl k).s with block := b }, (t.sl k).kept⟩ k
  rw [if_pos rfl] at hs
  refine tC_set t h4 vs vs ve k hk _ 1 (by omega) _ (fun _ _ _ => rfl) (by rw [tC_block _ _ _ k hk, hs]) (fun d hd hne => ?_)
  have : d = 0 ∨ d = 2 ∨ d = 3 ∨ d = 4 := by omega
  rcases this with rfl | rfl | rfl | rfl
  · rw [Nat.add_zero, tC_id _ _ _ k hk, tC_id _ _ _ k hk]; unfold Tbl.id; rw [hs]
  · rw [tC_dead _ _ _ k hk, tC_dead _ _ _ k hk, hs]
  · rw [tC_last _ _ _ k hk, tC_last _ _ _ k hk, hs]
  · rw [tC_kept _ _ _ k hk, tC_kept _ _ _ k hk]
theorem tC_set_dead (t : Tbl) (h4 : t.slots.length = 4) (vs : Nat → Value) (ve : Value) (k : Nat) (hk : k < 4) (b : Int) :
    (tC t vs ve).setIfInBounds (2 + k * 5 + 2) (.int .i64 b) = tC (t.set k ⟨{ (t.sl k).s with dead := b }, (t.sl k).kept⟩) vs ve := by
  have hs := set_sl t h4 k hk ⟨{ (t.sl k).s with dead := b }, (t.sl k).kept⟩ k
  rw [if_pos rfl] at hs
  refine tC_set t h4 vs vs ve k hk _ 2 (by omega) _ (fun _ _ _ => rfl) (by rw [tC_dead _ _ _ k hk, hs]) (fun d hd hne => ?_)
  have : d = 0 ∨ d = 1 ∨ d = 3 ∨ d = 4 := by omega
  rcases this with rfl | rfl | rfl | rfl
  · rw [Nat.add_zero, tC_id _ _ _ k hk, tC_id _ _ _ k hk]; unfold Tbl.id; rw [hs]
  · rw [tC_block _ _ _ k hk, tC_block _ _ _ k hk, hs]
  · rw [tC_last _ _ _ k hk, tC_last _ _ _ k hk, hs]
  · rw [tC_kept _ _ _ k hk, tC_kept _ _ _ k hk]
theorem tC_set_last (t : Tbl) (h4 : t.slots.length = 4) (vs : Nat → Value) (ve : Value) (k : Nat) (hk : k < 4) (b : Int) :
    (tC t vs ve).setIfInBounds (2 + k * 5 + 3) (.int .i64 b) = tC (t.set k ⟨{ (t.sl k).s with last := b }, (t.sl k).kept⟩) vs ve := by
  have hs := set_sl t h4 k hk ⟨{ (t.sl k).s with last := b }, (t.sl k).kept⟩ k
  rw [if_pos rfl] at hs
  refine tC_set t h4 vs vs ve k hk _ 3 (by omega) _ (fun _ _ _ => rfl) (by rw [tC_last _ _ _ k hk, hs]) (fun d hd hne => ?_)
  have : d = 0 ∨ d = 1 ∨ d = 2 ∨ d = 4 := by omega
  rcases this with rfl | rfl | rfl | rfl
  · rw [Nat.add_zero, tC_id _ _ _ k hk, tC_id _ _ _ k hk]; unfold Tbl.id; rw [hs]
  · rw [tC_block _ _ _ k hk, tC_block _ _ _ k hk, hs]
  · rw [tC_dead _ _ _ k hk, tC_dead _ _ _ k hk, hs]
  · rw [tC_kept _ _ _ k hk, tC_kept _ _ _ k hk]
def upd (vs : Nat → Value) (k : Nat) (v : Value) : Nat → Value := fun j => if j = k then v else vs j
theorem tC_set_kept (t : Tbl) (h4 : t.slots.length = 4) (vs : Nat → Value) (ve : Value) (k : Nat) (hk : k < 4) (v : Value) (l : List Ans) :
    (tC t vs ve).setIfInBounds (2 + k * 5 + 4) v = tC (t.set k ⟨(t.sl k).s, l⟩) (upd vs k v) ve := by
  have hs := set_sl t h4 k hk ⟨(t.sl k).s, l⟩ k
  rw [if_pos rfl] at hs
  refine tC_set t h4 vs _ ve k hk _ 4 (by omega) _ (fun j _ hj => if_neg hj) (by rw [tC_kept _ _ _ k hk]; unfold upd; rw [if_pos rfl]) (fun d hd hne => ?_)
  have : d = 0 ∨ d = 1 ∨ d = 2 ∨ d = 3 := by omega
  rcases this with rfl | rfl | rfl | rfl
  · rw [Nat.add_zero, tC_id _ _ _ k hk, tC_id _ _ _ k hk]; unfold Tbl.id; rw [hs]
  · rw [tC_block _ _ _ k hk, tC_block _ _ _ k hk, hs]
  · rw [tC_dead _ _ _ k hk, tC_dead _ _ _ k hk, hs]
  · rw [tC_last _ _ _ k hk, tC_last _ _ _ k hk, hs]
/-- Where a slot lies. -/
def slotP (m i : Nat) : Value := .pointer (some ⟨m, 2 + i * 5, none⟩)
def flatA (l : List Ans) : List Value := l.flatMap (fun a => [.int .i64 a.1, .string a.2])
theorem flatA_length (l : List Ans) : (flatA l).length = l.length * 2 := by
  unfold flatA
  induction l with
  | nil => rfl
  | cons a r ih => simp [List.flatMap_cons, ih]; omega
end Go.Proofs.Ytjladlniilacjaa
