/-
  Package canon, plain: the nodes are just those that are referred to.
-/
import Derived.Test.YtfeonjiiijdibaaGreatDoorCanApart
import Derived.Test.YtfeonjiiijdibaaGreatDoorNodeHashesP
namespace Go.Proofs.YtfeonjiiijdibaaGreatDoor
open Go.RowKit Go.Proofs.Nod Go.Proofs.Can
open Go.Proofs.Mdl hiding e0
set_option linter.unusedVariables false
set_option linter.unusedSimpArgs false
theorem kids (n : Nat) (l : List Ent) (hl : Wf l) (ht : tot l < n + 1) :
    (∀ s ∈ (grow (n + 1) l).b, refB (tx s) ∈ rfs (grow (n + 1) l).n ∧ ∃ l', Wf l' ∧ tot l' < n ∧ s = grow n l') ∧ ∀ r ∈ rfs (grow (n + 1) l).n, r = e0 ∨ ∃ s ∈ (grow (n + 1) l).b, r = refB (tx s) := by
  rcases l with _ | ⟨a, _ | ⟨b, r⟩⟩
  · refine ⟨fun s hs => (by cases hs), fun r hr => .inl ?_⟩
    have : rfs (grow (n + 1) []).n = List.replicate 16 e0 := rfs_eq _ rfl
    rw [this] at hr
    exact (List.mem_replicate.1 hr).2
  · refine ⟨fun s hs => (by cases hs), fun r hr => .inl ?_⟩
    have : rfs (grow (n + 1) [a]).n = List.replicate 16 e0 := rfs_eq _ rfl
    rw [this] at hr
    exact (List.mem_replicate.1 hr).2
  · obtain ⟨z, hz⟩ : ∃ z, (a :: b :: r).getLast? = some z := ⟨_, List.getLast?_eq_some_getLast (List.cons_ne_nil _ _)⟩
    rw [grow_two n (by simp) rfl hz]
    by_cases hc : 0 < com a.k z.k
    · rw [if_pos hc]
      have ha := all_take hl.up hz (Nat.le_refl _)
      have h1 := (ha a (List.mem_cons_self ..)).1
      have hlt := tot_wo_lt hc (List.mem_cons_self (a := a) (l := b :: r)) (by omega)
      obtain ⟨S, hS⟩ : ∃ S, S = grow n (wo (com a.k z.k) (a :: b :: r)) := ⟨_, rfl⟩
      rw [← hS]
      generalize a.k.extract 0 (com a.k z.k) = p
      have hr : rfs (extTr p S).n = refB (tx S) :: List.replicate 15 e0 := rfs_eq _ rfl
      rw [hr]
      refine ⟨fun s hs => ?_, fun x hx => ?_⟩
      · rcases List.mem_singleton.1 hs with rfl
        exact ⟨List.mem_cons_self .., _, hl.wo (fun e he => (ha e he).2), by omega, hS⟩
      · rcases List.mem_cons.1 hx with rfl | hx
        · exact .inr ⟨S, List.mem_singleton.2 rfl, rfl⟩
        · exact .inl (List.mem_replicate.1 hx).2
    · rw [if_neg hc]
      obtain ⟨L, hL⟩ : ∃ L, L = a :: b :: r := ⟨_, rfl⟩
      have hlL : Wf L := by rw [hL]; exact hl
      have htL : tot L < n + 1 := by rw [hL]; exact ht
      rw [← hL]
      have hr : rfs (forkTr (fun i => grow n (wo 1 (atL i L))) L).n = forkRefs (fun i => grow n (wo 1 (atL i L))) L := rfs_eq _ (fork16 _ _)
      rw [hr]
      refine ⟨fun s hs => ?_, fun x hx => ?_⟩
      · obtain ⟨i, him, hi⟩ := List.mem_filterMap.1 hs
        by_cases h0 : atL i L = []
        · rw [if_pos h0] at hi; cases hi
        · rw [if_neg h0] at hi
          cases hi
          have := tot_at h0
          exact ⟨List.mem_map.2 ⟨i, him, by rw [if_neg h0]⟩, _, hlL.at_ i, by omega, rfl⟩
      · obtain ⟨i, him, hi⟩ := List.mem_map.1 hx
        by_cases h0 : atL i L = []
        · rw [if_pos h0] at hi; exact .inl hi.symm
        · rw [if_neg h0] at hi
          exact .inr ⟨_, List.mem_filterMap.2 ⟨i, him, by rw [if_neg h0]⟩, hi.symm⟩
/-- What a node refers to is in the trie. -/
theorem told_in : ∀ (n : Nat) (l : List Ent), Wf l → tot l < n → ∀ y ∈ texts (grow n l), ∃ m, NdV m ∧ y = bytesB m ∧ ∀ h ∈ hashes m, ∃ x ∈ texts (grow n l), 32 ≤ x.size ∧ h = shaB x
  | 0, l, _, h, _, _ => by omega
  | n + 1, l, hl, ht, y, hy => by
    obtain ⟨k1, k2⟩ := kids n l hl ht
    have o := (grow_ok _ l hl ht).nd
    rw [texts_eq] at hy
    rcases List.mem_cons.1 hy with rfl | hy
    · refine ⟨_, o, tx_of o, fun h hh => ?_⟩
      rw [hashes_all _ o.ok] at hh
      obtain ⟨r, h1, h2⟩ := List.mem_filterMap.1 hh
      rcases k2 r h1 with rfl | ⟨s, hs, rfl⟩
      · rw [hashB_e0] at h2; cases h2
      · by_cases hz : (tx s).size < 32
        · rw [ref_small hz, hash_small hz] at h2; cases h2
        · rw [hash_big hz] at h2
          exact ⟨tx s, texts_sub hs (tx_mem s), by omega, (Option.some.inj h2).symm⟩
    · obtain ⟨s, hs, hys⟩ := textsL_mem.1 hy
      obtain ⟨_, l', hl', ht', rfl⟩ := k1 s hs
      obtain ⟨m, h1, h2, h3⟩ := told_in n l' hl' ht' y hys
      exact ⟨m, h1, h2, fun h hh => by
        obtain ⟨x, h4, h5⟩ := h3 h hh
        exact ⟨x, texts_sub hs h4, h5⟩⟩
theorem hashes_big {m : Nd} (hm : NdV m) {h : ByteArray} (hh : h ∈ hashes m) : 32 ≤ (bytesB m).size := by
  apply Nat.le_of_not_lt
  intro hs
  by_cases h0 : m.kind = 0
  · have hz : m = zeroN := by
      have := hm.ok
      rw [validB0 m h0] at this
      exact of_decide_eq_true this
    subst hz
    rw [hashes_all _ hm.ok] at hh
    obtain ⟨r, h1, h2⟩ := List.mem_filterMap.1 hh
    have : rfs zeroN = List.replicate 16 e0 := rfs_eq _ rfl
    rw [this] at h1
    rw [(List.mem_replicate.1 h1).2, hashB_e0] at h2
    cases h2
  · have := (in_hashes (in_small hm.ok hm.r16 h0 hs)).2
    rw [this] at hh
    cases hh
/-- What is in the trie, and is told by its hash, is referred to. -/
theorem in_told : ∀ (n : Nat) (l : List Ent), Wf l → tot l < n → ∀ x ∈ textsL (grow n l).b, 32 ≤ x.size → ∃ y ∈ texts (grow n l), 32 ≤ y.size ∧ ∃ m, NdV m ∧ y = bytesB m ∧ shaB x ∈ hashes m
  | 0, l, _, h, _, _, _ => by omega
  | n + 1, l, hl, ht, x, hx, hz => by
    obtain ⟨k1, k2⟩ := kids n l hl ht
    have o := (grow_ok _ l hl ht).nd
    obtain ⟨s, hs, hxs⟩ := textsL_mem.1 hx
    obtain ⟨hr, l', hl', ht', rfl⟩ := k1 s hs
    rw [texts_eq] at hxs
    rcases List.mem_cons.1 hxs with rfl | hxs
    · have hh : shaB (tx (grow n l')) ∈ hashes (grow (n + 1) l).n := by
        rw [hashes_all _ o.ok]
        exact List.mem_filterMap.2 ⟨_, hr, hash_big (by omega)⟩
      have hb := hashes_big o hh
      rw [← tx_of o] at hb
      exact ⟨_, tx_mem _, hb, _, o, tx_of o, hh⟩
    · obtain ⟨y, h1, h2, h3⟩ := in_told n l' hl' ht' x hxs hz
      exact ⟨y, texts_sub hs h1, h2, h3⟩
/-- The node of a text. -/
def ndOf (y : ByteArray) : Nd := (gB y).getD zeroN
/-- All hashes that texts tell. -/
def toldH (ns : List ByteArray) : List ByteArray := ns.flatMap (fun y => hashes (ndOf y))
theorem ndOf_bytes {m : Nd} (h : NdV m) : gB (bytesB m) = some m ∧ ndOf (bytesB m) = m := by
  have := back m h.ok h.r16
  exact ⟨this, by unfold ndOf; rw [this]; rfl⟩
theorem nodes_nd {l : List Ent} (hg : Mdl.Good l) {y : ByteArray} (hy : y ∈ nodesT (treeM l)) : y ∈ texts (treeM l) := by
  rcases (nodes_mem hg y).1 hy with rfl | h
  · exact tx_mem _
  · exact h.1
theorem nodes_get {l : List Ent} (hg : Mdl.Good l) {y : ByteArray} (hy : y ∈ nodesT (treeM l)) : ∃ m, gB y = some m ∧ ndOf y = m ∧ m.refs.length = 16 := by
  obtain ⟨m, h1, rfl⟩ := texts_nd (Wf.paths hg) y (nodes_nd hg hy)
  exact ⟨m, (ndOf_bytes h1).1, (ndOf_bytes h1).2, h1.r16⟩
theorem told_all {l : List Ent} (hg : Mdl.Good l) : ∀ h ∈ toldH (nodesT (treeM l)), h ∈ (nodesT (treeM l)).map shaB := fun h hh => by
  obtain ⟨y, hy, h1⟩ := List.mem_flatMap.1 hh
  obtain ⟨m, hm, rfl, h2⟩ := told_in _ _ (Wf.paths hg) (Nat.lt_succ_self _) y (nodes_nd hg hy)
  rw [(ndOf_bytes hm).2] at h1
  obtain ⟨x, h3, h4, rfl⟩ := h2 h h1
  exact List.mem_map.2 ⟨x, (nodes_mem hg x).2 (.inr ⟨h3, h4⟩), rfl⟩
theorem nodes_once {l : List Ent} : (nodesT (treeM l)).Nodup := (picked (tx (treeM l)) (texts (treeM l))).once
theorem all_told {l : List Ent} (hg : Mdl.Good l) {i : Nat} {x : ByteArray} (hi : 1 ≤ i) (hx : (nodesT (treeM l))[i]? = some x) : shaB x ∈ toldH (nodesT (treeM l)) ∧ 32 ≤ x.size ∧ ¬ x ∈ (nodesT (treeM l)).take i := by
  have hnd := nodes_once (l := l)
  have hnot : ¬ x ∈ (nodesT (treeM l)).take i := fun h => by
    obtain ⟨j, hj⟩ := List.mem_iff_getElem?.1 h
    have hlt := (List.getElem?_eq_some_iff.1 hj).1
    rw [List.length_take] at hlt
    rw [List.getElem?_take_of_lt (by omega)] at hj
    obtain ⟨p1, p2⟩ := List.getElem?_eq_some_iff.1 hj
    obtain ⟨q1, q2⟩ := List.getElem?_eq_some_iff.1 hx
    exact (List.pairwise_iff_getElem.1 hnd) j i p1 q1 (by omega) (p2.trans q2.symm)
  have hfirst := nodesT_first (treeM l)
  have hne : ¬ x = topM l := fun e => hnot (by
    rw [e]
    refine List.mem_iff_getElem?.2 ⟨0, ?_⟩
    rw [List.getElem?_take_of_lt (by omega)]
    exact hfirst)
  rcases (nodes_mem hg x).1 (List.mem_of_getElem? hx) with h | ⟨h1, h2⟩
  · exact absurd h hne
  · rw [texts_eq] at h1
    rcases List.mem_cons.1 h1 with h1 | h1
    · exact absurd h1 hne
    · obtain ⟨y, k1, k2, m, k3, rfl, k4⟩ := in_told _ _ (Wf.paths hg) (Nat.lt_succ_self _) x h1 h2
      refine ⟨List.mem_flatMap.2 ⟨_, (nodes_mem hg _).2 (.inr ⟨k1, k2⟩), ?_⟩, h2, hnot⟩
      rw [(ndOf_bytes k3).2]
      exact k4
theorem hashes_len16 (m : Nd) : (hashes m).length ≤ 16 := by
  unfold hashes
  split
  · refine Nat.le_trans (List.length_filterMap_le _ _) ?_
    rw [used_all]
    refine Nat.le_trans (List.length_filter_le _ _) ?_
    rw [rfs_length]
    exact Nat.le_refl _
  · exact Nat.zero_le _
end Go.Proofs.YtfeonjiiijdibaaGreatDoor
