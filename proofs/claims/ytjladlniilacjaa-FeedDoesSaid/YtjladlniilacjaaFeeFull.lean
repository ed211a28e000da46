/-
  Package feed, plain: no row is bare, whatever is done; what push makes, row by row.
-/
import Derived.Test.YtjladlniilacjaaFeeRf4
namespace Go.Proofs.Fee
set_option linter.unusedVariables false
theorem full_news (room : Int) : (news room).Full := fun p hp => by cases hp
theorem Tbl.Full.put {t : Tbl} (h : t.Full) (hu : Up t.rows) (s : Int) {r : Row} (hr : r.bare = false) : (t.put s r).Full := fun p hp => by
  rcases (putK_mem hu).1 hp with rfl | ⟨hp, _⟩
  · exact hr
  · exact h p hp
theorem Tbl.Full.del {t : Tbl} (h : t.Full) (s : Int) : (t.del s).Full := fun p hp => h p (delK_mem.1 hp).1
theorem Tbl.Full.tidied {t : Tbl} (h : t.Full) (hu : Up t.rows) (s : Int) (r : Row) : ((t.put s r).tidy s).Full := by
  have e : (t.put s r).row s = r := by rw [row_put hu, if_pos rfl]
  unfold Tbl.tidy
  rw [e]
  by_cases hb : r.bare = true
  · rw [if_pos hb]
    intro p hp
    obtain ⟨h1, h2⟩ := delK_mem.1 hp
    rcases (putK_mem hu).1 h1 with rfl | ⟨h1, _⟩
    · exact absurd rfl h2
    · exact h p h1
  · rw [if_neg hb]
    exact h.put hu s (by simpa using hb)
theorem Tbl.Full.row {t : Tbl} (h : t.Full) {s : Int} (hs : s ∈ t.keys) : (t.row s).bare = false := by
  have : hasK t.rows s = true := hasK_key.2 hs
  rw [← atK_has] at this
  obtain ⟨r, hr⟩ := Option.isSome_iff_exists.1 this
  unfold Tbl.row
  rw [hr]
  exact h _ (atK_some hr)
theorem full_pushL (n : Ntc) : ∀ (l : List Int) (p : Tbl × List Int), p.1.Ok → p.1.Full → (∀ s ∈ l, s ∈ p.1.keys) → (Tbl.pushL n p l).1.Full
  | [], p, ok, h, hl => h
  | s :: r, p, ok, h, hl => by
    have hs := hl s (List.mem_cons_self ..)
    have ok2 := ok.pushAt n s hs
    refine full_pushL n r _ ok2 (h.put ok.up s (pushRow_bare _ n s _ ok.room.1 (h.row hs))) (fun u hu => ?_)
    show u ∈ (p.1.pushAt n s).keys
    rw [pushAt_keys ok n s hs]
    exact hl u (List.mem_cons_of_mem _ hu)
theorem Tbl.Full.does {t : Tbl} (h : t.Full) (ok : t.Ok) (a : Deed) : (t.does a).1.Full := by
  unfold Tbl.does
  split
  · unfold Tbl.sub
    split
    · exact h
    · exact h.put ok.up _ (by simp [Row.bare])
  · split
    · unfold Tbl.unsub
      split
      · exact h.tidied ok.up _ _
      · exact h
    · split
      · exact full_pushL _ t.keys (t, []) ok h (fun _ h => h)
      · split
        · unfold Tbl.pop
          split
          · exact h.tidied ok.up _ _
          · exact h
        · exact h.del _
/-- A row in its place, by its number. -/
theorem putK_set {α : Type} {ks : Keyz α} (h : Up ks) {i : Nat} {s : Int} {y : α} (hi : ks[i]? = some (s, y)) (x : α) : putK ks s x = ks.set i (s, x) := by
  induction ks generalizing i with
  | nil => simp at hi
  | cons p r ih =>
    obtain ⟨h1, h2⟩ := List.pairwise_cons.1 h
    cases i with
    | zero =>
      simp only [List.getElem?_cons_zero, Option.some.injEq] at hi
      subst hi
      unfold putK
      rw [if_neg (by simp), if_pos rfl]
      rfl
    | succ i =>
      have hi' : r[i]? = some (s, y) := by simpa using hi
      have hlt := h1 _ (List.mem_of_getElem? hi')
      simp only at hlt
      unfold putK
      rw [if_pos hlt, ih h2 hi']
      rfl
theorem at_num {α : Type} {ks : Keyz α} (h : Up ks) {i : Nat} {s : Int} {y : α} (hi : ks[i]? = some (s, y)) : atK ks s = some y := atK_mem h.nodup (List.mem_of_getElem? hi)
/-- How far a push has come. -/
def pushTo (n : Ntc) (t : Tbl) (i : Nat) : Tbl × List Int := Tbl.pushL n (t, []) (t.keys.take i)
theorem pushTo_zero (n : Ntc) (t : Tbl) : pushTo n t 0 = (t, []) := by unfold pushTo; rw [List.take_zero]; rfl
theorem pushTo_all (n : Ntc) (t : Tbl) : pushTo n t t.rows.length = t.push n := by
  unfold pushTo Tbl.push
  rw [List.take_of_length_le (by unfold Tbl.keys; rw [List.length_map]; exact Nat.le_refl _)]
theorem pushTo_succ (n : Ntc) (t : Tbl) {i : Nat} {s : Int} (h : t.keys[i]? = some s) : pushTo n t (i + 1) = ((pushTo n t i).1.pushAt n s, (pushTo n t i).2 ++ lagR (pushTo n t i).1.room s ((pushTo n t i).1.row s)) := by
  unfold pushTo
  rw [List.take_add_one, h]
  exact pushL_snoc n _ _ _
theorem pushTo_ok (n : Ntc) {t : Tbl} (ok : t.Ok) (i : Nat) : (pushTo n t i).1.Ok ∧ (pushTo n t i).1.keys = t.keys ∧ (pushTo n t i).1.room = t.room :=
  pushL_ok n _ (t, []) ok (fun s hs => List.mem_of_mem_take hs)
/-- A row that is pushed to, by its number. -/
theorem pushAt_set (n : Ntc) {t : Tbl} (ok : t.Ok) {i : Nat} {s : Int} {y : Row} (hi : t.rows[i]? = some (s, y)) : (t.pushAt n s).rows = t.rows.set i (s, pushRow t.room n s y) := by
  have e : t.row s = y := by unfold Tbl.row; rw [at_num ok.up hi]; rfl
  unfold Tbl.pushAt
  rw [e]
  exact putK_set ok.up hi _
end Go.Proofs.Fee
