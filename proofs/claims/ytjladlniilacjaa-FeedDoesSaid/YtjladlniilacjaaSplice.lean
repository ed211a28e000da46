/-
  A row of cells, a stretch of which is set.
-/
import Derived.Test.YtjladlniilacjaaLeaUsed
import Derived.Laws.CopyOwn
import Derived.Deep.RegionLaw
import Derived.Deep.AppendLies
namespace Go.Proofs.Ytjladlniilacjaa
open Go.RowKit
set_option linter.unusedVariables false
set_option linter.unusedSimpArgs false
theorem splice_set {α : Type} (cur : List α) (o : Nat) (v : α) (r : List α) (h : o + (r.length + 1) ≤ cur.length) : splice (cur.set o v) (o + 1) r = splice cur o (v :: r) := by
  unfold splice
  rw [List.take_set, List.drop_set, if_pos (by omega)]
  have h1 : (cur.take (o + 1)).set o v = cur.take o ++ [v] := by
    rw [List.take_succ_eq_append_getElem (by omega), List.set_append_right _ _ (by rw [List.length_take]; omega)]
    rw [List.length_take, Nat.min_eq_left (by omega), Nat.sub_self]
    rfl
  rw [h1]
  simp [Nat.add_comm, Nat.add_left_comm]
theorem Blk.setCells {k : Nat} {t : TypeId} : ∀ (vs : List Value) (o : Nat) (cur : List Value) (w : World), Blk w k t cur.toArray → o + vs.length ≤ cur.length → Blk (w.setCells k o vs) k t (splice cur o vs).toArray
  | [], o, cur, w, h, _ => by
    show Blk w k t (splice cur o []).toArray
    unfold splice
    simpa using h
  | v :: r, o, cur, w, h, hl => by
    have h1 := h.set o v
    rw [List.setIfInBounds_toArray] at h1
    have h2 := Blk.setCells r (o + 1) (cur.set o v) (w.setCell ⟨k, o, none⟩ v) h1 (by rw [List.length_set]; simp at hl; omega)
    rw [splice_set cur o v r (by simpa using hl)] at h2
    exact h2
theorem far_setCells {S : Nat → Prop} {a : World} {k : Nat} (hk : k < a.heap.size → S k) : ∀ (vs : List Value) (o : Nat) (b : World), Far S a b → Far S a (b.setCells k o vs)
  | [], _, _, h => h
  | v :: r, o, b, h => far_setCells hk r (o + 1) _ (h.setCell (p := ⟨k, o, none⟩) hk v)
end Go.Proofs.Ytjladlniilacjaa
