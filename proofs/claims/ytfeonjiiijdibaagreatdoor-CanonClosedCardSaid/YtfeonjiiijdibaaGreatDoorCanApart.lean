/-
  Package canon, plain: what all texts of a trie are; other maps' tries have other roots, or two texts collide.
-/
import Derived.Test.YtfeonjiiijdibaaGreatDoorCanClash
namespace Go.Proofs.YtfeonjiiijdibaaGreatDoor
open Go.RowKit Go.Proofs.Nod Go.Proofs.Can
open Go.Proofs.Mdl hiding e0
set_option linter.unusedVariables false
set_option linter.unusedSimpArgs false
/-- What holds of each trie's text holds of all that are in it. -/
theorem texts_all (P : ByteArray → Prop) (hP : ∀ (n : Nat) (l : List Ent), Wf l → tot l < n → P (tx (grow n l))) : ∀ (n : Nat) (l : List Ent), Wf l → tot l < n → ∀ x ∈ texts (grow n l), P x := by
  intro n
  induction n with
  | zero => intro l _ h; omega
  | succ n ih =>
    intro l hl ht x hx
    rw [texts_eq] at hx
    rcases List.mem_cons.1 hx with rfl | hx
    · exact hP _ _ hl ht
    · obtain ⟨s, hs, hxs⟩ := textsL_mem.1 hx
      rcases l with _ | ⟨a, _ | ⟨b, r⟩⟩
      · cases hs
      · cases hs
      · obtain ⟨z, hz⟩ : ∃ z, (a :: b :: r).getLast? = some z := ⟨_, List.getLast?_eq_some_getLast (List.cons_ne_nil _ _)⟩
        rw [grow_two n (by simp) rfl hz] at hs
        by_cases hc : 0 < com a.k z.k
        · rw [if_pos hc] at hs
          have ha := all_take hl.up hz (Nat.le_refl _)
          have h1 := (ha a (List.mem_cons_self ..)).1
          have hlt := tot_wo_lt hc (List.mem_cons_self (a := a) (l := b :: r)) (by omega)
          rcases List.mem_singleton.1 hs with rfl
          exact ih _ (hl.wo (fun e he => (ha e he).2)) (by omega) x hxs
        · rw [if_neg hc] at hs
          obtain ⟨i, _, hi⟩ := List.mem_filterMap.1 hs
          by_cases h0 : atL i (a :: b :: r) = []
          · rw [if_pos h0] at hi; cases hi
          · rw [if_neg h0] at hi
            cases hi
            have := tot_at h0
            exact ih _ (hl.at_ i) (by omega) x hxs
theorem listB_first (xs : List ByteArray) : ∃ b r, (listB xs).data.toList = b :: r ∧ 192 ≤ b.toNat := by
  unfold listB
  rw [Nib.bs_data]
  unfold Rlp.list
  generalize (xs.map (·.data.toList)).flatten = f
  unfold Rlp.head
  split
  · next h => exact ⟨_, _, rfl, by simp [UInt8.toNat_ofNat']; omega⟩
  · next h =>
    have := Rlp.digs_length f.length
    exact ⟨_, _, rfl, by simp [UInt8.toNat_ofNat']; omega⟩
/-- A node's text is no hash's. -/
theorem bytes_ref {n : Nd} (h : NdV n) (hs : 32 ≤ (bytesB n).size) : ¬ refB (bytesB n) = bytesB n := by
  intro e
  rw [refB_hash (by omega), text32 _ (shaB_size _)] at e
  have e2 : (bytesB n).data.toList = 160 :: (shaB (bytesB n)).data.toList := (congrArg (fun z : ByteArray => z.data.toList) e).symm
  have hk : n.kind = 1 ∨ n.kind = 2 ∨ n.kind = 3 ∨ bytesB n = textB e0 := by
    unfold bytesB
    by_cases h1 : n.kind = 1
    · exact .inl h1
    · by_cases h2 : n.kind = 2
      · exact .inr (.inl h2)
      · by_cases h3 : n.kind = 3
        · exact .inr (.inr (.inl h3))
        · rw [if_neg h1, if_neg h2, if_neg h3]; exact .inr (.inr (.inr rfl))
  have key : ∀ xs, bytesB n = listB xs → False := fun xs h => by
    obtain ⟨b, r, h1, h2⟩ := listB_first xs
    rw [h, h1] at e2
    have : b = 160 := (List.cons.inj e2).1
    rw [this] at h2
    exact absurd h2 (by decide)
  rcases hk with hk | hk | hk | hk
  · exact key _ (by unfold bytesB; rw [if_pos hk])
  · exact key _ (by unfold bytesB; rw [if_neg (by omega), if_pos hk])
  · exact key _ (by unfold bytesB; rw [if_neg (by omega), if_neg (by omega), if_pos hk])
  · rw [hk] at hs
    exact absurd hs (by decide +kernel)
/-- Each text is a node's. -/
theorem texts_nd {l : List Ent} (hl : Wf l) : ∀ x ∈ texts (treeP l), ∃ m, NdV m ∧ x = bytesB m :=
  texts_all (fun x => ∃ m, NdV m ∧ x = bytesB m) (fun n l h1 h2 => ⟨_, (grow_ok n l h1 h2).nd, tx_of (grow_ok n l h1 h2).nd⟩) _ l hl (Nat.lt_succ_self _)
theorem texts_off {l : List Ent} (hl : Wf l) {x : ByteArray} (hx : x ∈ texts (treeP l)) (h : 32 ≤ x.size) : ¬ refB x = x := by
  obtain ⟨m, hm, rfl⟩ := texts_nd hl x hx
  exact bytes_ref hm h
theorem nodes_mem {l : List Ent} (hg : Mdl.Good l) (x : ByteArray) : x ∈ nodesT (treeM l) ↔ x = topM l ∨ x ∈ texts (treeM l) ∧ 32 ≤ x.size := by
  rw [nodesT_eq, (picked (tx (treeM l)) (texts (treeM l))).out x]
  constructor
  · rintro (h | ⟨h1, h2⟩)
    · exact .inl h
    · refine .inr ⟨h1, Nat.le_of_not_lt (fun h => h2 (ref_small h))⟩
  · rintro (h | ⟨h1, h2⟩)
    · exact .inl h
    · exact .inr ⟨h1, texts_off (Wf.paths hg) h1 h2⟩
theorem paths_inj : ∀ {a b : List Ent}, pathsL a = pathsL b → a = b
  | [], [], _ => rfl
  | [], _ :: _, h => by cases h
  | _ :: _, [], h => by cases h
  | x :: a, y :: b, h => by
    obtain ⟨h1, h2⟩ := List.cons.inj h
    injection h1 with h3 h4
    have h5 : Nib.path x.k.data.toList = Nib.path y.k.data.toList := congrArg (fun z : ByteArray => z.data.toList) h3
    have h6 : x.k = y.k := ByteArray.ext (Array.toList_inj.1 (Nib.path_inj h5))
    obtain ⟨xk, xv⟩ := x
    obtain ⟨yk, yv⟩ := y
    simp only at h4 h6
    rw [h4, h6, paths_inj h2]
/-- A MAP HAS ONE ROOT, or two texts collide. -/
theorem clash_some {a b : List Ent} (ha : Mdl.Good a) (hb : Mdl.Good b) (hne : ¬ a = b) (hs : shaB (topM a) = shaB (topM b)) :
    ∃ x y, clashM a b = some (x, y) ∧ ¬ x = y ∧ shaB x = shaB y ∧ x.size ≤ 1000 ∧ y.size ≤ 1000 := by
  have e1 : clashM a b = firstT (nodesT (treeM a)) (nodesT (treeM b)) := by unfold clashM; rw [if_neg hne, if_pos hs]
  rw [e1]
  cases hf : firstT (nodesT (treeM a)) (nodesT (treeM b)) with
  | some p =>
    obtain ⟨x, y⟩ := p
    obtain ⟨h1, h2, h3, h4⟩ := firstT_some hf
    exact ⟨x, y, rfl, h4, h3, nodesT_size ha x h1, nodesT_size hb y h2⟩
  | none =>
    exfalso
    have key := firstT_none hf
    have ht := key _ ((nodes_mem ha _).2 (.inl rfl)) _ ((nodes_mem hb _).2 (.inl rfl)) hs
    obtain ⟨n, hn⟩ : ∃ n, n = tot (pathsL a) + tot (pathsL b) + 1 := ⟨_, rfl⟩
    have ga : treeM a = grow n (pathsL a) := (grow_tree (Wf.paths ha).up (by omega)).symm
    have gb : treeM b = grow n (pathsL b) := (grow_tree (Wf.paths hb).up (by omega)).symm
    unfold topM at ht
    have hta : ∀ x, x ∈ texts (grow n (pathsL a)) → 32 ≤ x.size → x ∈ nodesT (treeM a) := fun x h1 h2 => (nodes_mem ha x).2 (.inr ⟨by rw [ga]; exact h1, h2⟩)
    have htb : ∀ x, x ∈ texts (grow n (pathsL b)) → 32 ≤ x.size → x ∈ nodesT (treeM b) := fun x h1 h2 => (nodes_mem hb x).2 (.inr ⟨by rw [gb]; exact h1, h2⟩)
    rw [ga, gb] at ht
    rcases tells n (pathsL a) (pathsL b) (Wf.paths ha) (Wf.paths hb) (by omega) (by omega) ht with h | ⟨x, hx, y, hy, h1, h2, h3, h4⟩
    · exact hne (paths_inj h)
    · exact h3 (key x (hta x hx h1) y (htb y hy h2) h4)
end Go.Proofs.YtfeonjiiijdibaaGreatDoor
