/-
  A row of sessions, seen by its cells.
-/
import Derived.Test.YtjladlniilacjaaLeaWorks
namespace Go.Proofs.Ytjladlniilacjaa
open Go.RowKit Go.Proofs.Lea
set_option linter.unusedVariables false
set_option linter.unusedSimpArgs false
/-- What a row of sessions shows. -/
theorem flatS_at : ∀ (l : List Ses) (j : Nat) (s : Ses), l[j]? = some s → (flatS l)[j * 4]? = some (.int .i64 s.id) ∧ (flatS l)[j * 4 + 1]? = some (.int .i64 s.block) ∧ (flatS l)[j * 4 + 2]? = some (.int .i64 s.dead) ∧ (flatS l)[j * 4 + 3]? = some (.int .i64 s.last)
  | [], j, s, h => by simp at h
  | x :: r, 0, s, h => by
    simp only [List.getElem?_cons_zero, Option.some.injEq] at h
    subst h
    exact ⟨rfl, rfl, rfl, rfl⟩
  | x :: r, j + 1, s, h => by
    have := flatS_at r j s (by simpa using h)
    have e : ∀ k, (flatS (x :: r))[(j + 1) * 4 + k]? = (flatS r)[j * 4 + k]? := fun k => by
      show ([_, _, _, _] ++ flatS r : List Value)[(j + 1) * 4 + k]? = _
      rw [List.getElem?_append_right (by simp; omega)]
      congr 1
      simp
      omega
    exact ⟨(e 0).trans this.1, (e 1).trans this.2.1, (e 2).trans this.2.2.1, (e 3).trans this.2.2.2⟩
structure SesAt (w : World) (b o : Nat) (s : Ses) : Prop where
  c0 : w.cell? ⟨b, o, none⟩ = some (.int .i64 s.id)
  c1 : w.cell? ⟨b, o + 1, none⟩ = some (.int .i64 s.block)
  c2 : w.cell? ⟨b, o + 2, none⟩ = some (.int .i64 s.dead)
  c3 : w.cell? ⟨b, o + 3, none⟩ = some (.int .i64 s.last)
theorem own_sl {w : World} {base : Nat} {v : Value} {l : List Ses} (h : w.ownsRow base 29 4 v l.length (flatS l)) : ∃ A c, v = .slice A l.length c := by
  obtain ⟨A, c, hv, _, _⟩ := Vs.of_own h (flatS_length _)
  exact ⟨A, c, hv⟩
theorem own_at {w : World} {base c : Nat} {A : Option Addr} {l : List Ses} (h : w.ownsRow base 29 4 (.slice A l.length c) l.length (flatS l)) (k : Nat) (s : Ses) (hk : l[k]? = some s) : ∃ b o, A = some ⟨b, o, none⟩ ∧ b < w.heap.size ∧ ∀ j s, l[j]? = some s → SesAt w b (o + j * 4) s := by
  obtain ⟨A', c', hv, _, hvs⟩ := Vs.of_own h (flatS_length _)
  cases hv
  obtain ⟨b, o, rfl, hb, hc⟩ := hvs.at_ (k * 4) _ (flatS_at l k s hk).1
  refine ⟨b, o, rfl, hb, fun j s hj => ?_⟩
  obtain ⟨h0, h1, h2, h3⟩ := flatS_at l j s hj
  exact ⟨hc _ _ h0, by rw [Nat.add_assoc]; exact hc _ _ h1, by rw [Nat.add_assoc]; exact hc _ _ h2, by rw [Nat.add_assoc]; exact hc _ _ h3⟩
end Go.Proofs.Ytjladlniilacjaa
