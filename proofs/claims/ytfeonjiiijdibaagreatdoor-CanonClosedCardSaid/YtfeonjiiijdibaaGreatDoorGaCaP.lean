/-
  Merged: CanWf, CanTells, CanGrowsP.
-/
import Derived.Test.YtfeonjiiijdibaaGreatDoorGaCaA
import Derived.Test.YtfeonjiiijdibaaGreatDoorGaNodeD
import Derived.Test.YtfeonjiiijdibaaGreatDoorNodeColl
import Derived.Test.YtfeonjiiijdibaaGreatDoorNodeGrowsP
import Derived.Test.YtfeonjiiijdibaaGreatDoorGaNibM
namespace Go.Proofs.Can
open Go
open Go.Proofs.Mdl (Ent ltB Up ltB_iff ltB_trans bytes_ext entOk keyOk valOk)
set_option linter.unusedVariables false
set_option linter.unusedSimpArgs false
/-- Entries whose paths may be, rising. -/
structure Wf (l : List Ent) : Prop where
  up : Up l
  sz : ∀ e ∈ l, e.k.size ≤ 12
  nib : ∀ e ∈ l, Nib.valid e.k.data.toList = true
  val : ∀ e ∈ l, 1 ≤ e.v.size ∧ e.v.size ≤ 80
theorem wo_mem {n : Nat} {l : List Ent} {e : Ent} (h : e ∈ wo n l) : ∃ x ∈ l, e = ⟨x.k.extract n x.k.size, x.v⟩ := by
  obtain ⟨x, h1, h2⟩ := List.mem_map.1 h
  exact ⟨x, h1, h2.symm⟩
theorem valid_drop {l : List UInt8} (h : Nib.valid l = true) (n : Nat) : Nib.valid (l.drop n) = true := by
  unfold Nib.valid at h ⊢
  rw [List.all_eq_true] at h ⊢
  exact fun x hx => h x (List.mem_of_mem_drop hx)
theorem Wf.wo {l : List Ent} (h : Wf l) {n : Nat} {p : List UInt8} (hp : ∀ e ∈ l, e.k.data.toList.take n = p) : Wf (wo n l) := by
  refine ⟨up_wo h.up hp, fun e he => ?_, fun e he => ?_, fun e he => ?_⟩
  · obtain ⟨x, hx, rfl⟩ := wo_mem he
    have := h.sz x hx
    show (x.k.extract n x.k.size).size ≤ 12
    rw [cut_size]
    omega
  · obtain ⟨x, hx, rfl⟩ := wo_mem he
    show Nib.valid (x.k.extract n x.k.size).data.toList = true
    rw [cut_data]
    exact valid_drop (h.nib x hx) n
  · obtain ⟨x, hx, rfl⟩ := wo_mem he
    exact h.val x hx
theorem Wf.filter {l : List Ent} (h : Wf l) (p : Ent → Bool) : Wf (l.filter p) :=
  ⟨up_filter h.up p, fun e he => h.sz e (List.mem_filter.1 he).1, fun e he => h.nib e (List.mem_filter.1 he).1, fun e he => h.val e (List.mem_filter.1 he).1⟩
theorem at_take {l : List Ent} {i : Nat} : ∀ e ∈ atL i l, e.k.data.toList.take 1 = [UInt8.ofNat i] := fun e he => by
  obtain ⟨x, r, h, hx⟩ := isAt_iff.1 (List.mem_filter.1 he).2
  rw [h, ← hx]
  simp
theorem Wf.at_ {l : List Ent} (h : Wf l) (i : Nat) : Wf (Can.wo 1 (atL i l)) := (h.filter _).wo at_take
theorem common_drop (a b : List UInt8) : Nib.common (a.drop (Nib.common a b)) (b.drop (Nib.common a b)) = 0 := by
  induction a generalizing b with
  | nil => simp [Nib.common]
  | cons x a ih =>
    cases b with
    | nil => simp [Nib.common]
    | cons y b =>
      by_cases h : x = y
      · subst h
        have : Nib.common (x :: a) (x :: b) = Nib.common a b + 1 := by simp [Nib.common]
        rw [this]
        simpa using ih b
      · have : Nib.common (x :: a) (y :: b) = 0 := by simp [Nib.common, h]
        rw [this]
        exact this
/-- What the first and the last one have no more in common: nothing. -/
theorem com_rest {l : List Ent} {x z : Ent} (hx : l[0]? = some x) (hz : l.getLast? = some z) : ∃ x' z', (wo (com x.k z.k) l)[0]? = some x' ∧ (wo (com x.k z.k) l).getLast? = some z' ∧ com x'.k z'.k = 0 := by
  refine ⟨⟨x.k.extract (com x.k z.k) x.k.size, x.v⟩, ⟨z.k.extract (com x.k z.k) z.k.size, z.v⟩, by unfold wo; rw [List.getElem?_map, hx]; rfl, by unfold wo; rw [List.getLast?_map, hz]; rfl, ?_⟩
  show Nib.common (x.k.extract _ x.k.size).data.toList (z.k.extract _ z.k.size).data.toList = 0
  rw [cut_data, cut_data]
  exact common_drop _ _
/-- Paths that rise and have nothing in common: two things hang there. -/
theorem fork_two {l : List Ent} (hu : Up l) (h2 : 2 ≤ l.length) {x z : Ent} (hx : l[0]? = some x) (hz : l.getLast? = some z) (hc : com x.k z.k = 0) :
    (∃ e ∈ l, e.k.data.toList = []) ∧ (∃ i, i ≤ 255 ∧ ¬ atL i l = []) ∨ ∃ i j, i ≤ 255 ∧ j ≤ 255 ∧ i < j ∧ ¬ atL i l = [] ∧ ¬ atL j l = [] := by
  have hxm := List.mem_of_getElem? hx
  have hzm : z ∈ l := List.mem_of_getLast? hz
  have hlt : x.k.data.toList < z.k.data.toList := by
    rw [List.getLast?_eq_getElem?] at hz
    have hj1 := (List.getElem?_eq_some_iff.1 hz).1
    have hi1 := (List.getElem?_eq_some_iff.1 hx).1
    have := List.pairwise_iff_getElem.1 hu 0 (l.length - 1) hi1 hj1 (by omega)
    rw [(List.getElem?_eq_some_iff.1 hx).2, (List.getElem?_eq_some_iff.1 hz).2] at this
    exact ltB_iff.1 this
  have hat : ∀ (e : Ent) (b : UInt8) (r : List UInt8), e ∈ l → e.k.data.toList = b :: r → ¬ atL b.toNat l = [] := fun e b r he hb hn => by
    have : e ∈ atL b.toNat l := List.mem_filter.2 ⟨he, isAt_iff.2 ⟨b, r, hb, rfl⟩⟩
    rw [hn] at this
    cases this
  have hcz : Nib.common x.k.data.toList z.k.data.toList = 0 := hc
  cases hzd : z.k.data.toList with
  | nil => rw [hzd] at hlt; exact absurd hlt (List.not_lt_nil _)
  | cons b r =>
    have hb := b.toNat_lt
    cases hxd : x.k.data.toList with
    | nil => exact .inl ⟨⟨x, hxm, hxd⟩, b.toNat, by omega, hat z b r hzm hzd⟩
    | cons a q =>
      have ha := a.toNat_lt
      rw [hxd, hzd] at hlt hcz
      rcases lt_cons_iff.1 hlt with h | ⟨h, _⟩
      · exact .inr ⟨a.toNat, b.toNat, by omega, by omega, UInt8.lt_iff_toNat_lt.1 h, hat x a q hxm hxd, hat z b r hzm hzd⟩
      · subst h
        simp [Nib.common] at hcz
/-- The one that ends here. -/
theorem endV_of {l : List Ent} (hu : Up l) {e : Ent} (he : e ∈ l) (hk : e.k.data.toList = []) : endV l = e.v := by
  have h1 : e ∈ l.filter isEnd := List.mem_filter.2 ⟨he, by unfold isEnd; simpa using hk⟩
  have h2 := up_filter hu isEnd
  unfold endV
  rcases hl : l.filter isEnd with _ | ⟨x, r⟩
  · rw [hl] at h1; cases h1
  · rw [hl] at h1 h2
    have hx : ∀ y ∈ x :: r, y.k.data.toList = [] := fun y hy => by
      rw [← hl] at hy
      have := (List.mem_filter.1 hy).2
      unfold isEnd at this
      simpa using this
    have hr : r = [] := by
      cases r with
      | nil => rfl
      | cons y r =>
        have := (List.pairwise_cons.1 h2).1 y (List.mem_cons_self ..)
        have := ltB_iff.1 this
        rw [hx x (List.mem_cons_self ..), hx y (List.mem_cons_of_mem _ (List.mem_cons_self ..))] at this
        exact absurd this (List.lt_irrefl _)
    subst hr
    rcases List.mem_singleton.1 h1 with rfl
    rfl
theorem endV_none {l : List Ent} (h : ∀ e ∈ l, ¬ e.k.data.toList = []) : endV l = Nod.e0 := by
  have : l.filter isEnd = [] := List.filter_eq_nil_iff.2 (fun e he => by unfold isEnd; simpa using h e he)
  unfold endV
  rw [this]
  rfl
theorem endV_size {l : List Ent} (h : ∀ e ∈ l, 1 ≤ e.v.size ∧ e.v.size ≤ 80) (hu : Up l) : (endV l).size ≤ 80 := by
  by_cases he : ∃ e ∈ l, e.k.data.toList = []
  · obtain ⟨e, h1, h2⟩ := he
    rw [endV_of hu h1 h2]
    exact (h e h1).2
  · rw [endV_none (fun e h1 h2 => he ⟨e, h1, h2⟩)]
    decide
/-- A map, by paths. -/
def pathsL (l : List Ent) : List Ent := l.map (fun e => ⟨Nib.bs (Nib.path e.k.data.toList), e.v⟩)
theorem Wf.paths {l : List Ent} (h : Mdl.Good l) : Wf (pathsL l) := by
  have hm : ∀ e ∈ pathsL l, ∃ x ∈ l, e = ⟨Nib.bs (Nib.path x.k.data.toList), x.v⟩ := fun e he => by
    obtain ⟨x, h1, h2⟩ := List.mem_map.1 he
    exact ⟨x, h1, h2.symm⟩
  have hok : ∀ x ∈ l, 1 ≤ x.k.size ∧ x.k.size ≤ 6 ∧ 1 ≤ x.v.size ∧ x.v.size ≤ 80 := fun x hx => by
    have := h.ok x hx
    unfold entOk keyOk valOk at this
    simp only [Bool.and_eq_true, decide_eq_true_eq] at this
    omega
  refine ⟨?_, fun e he => ?_, fun e he => ?_, fun e he => ?_⟩
  · unfold pathsL
    refine List.pairwise_map.2 (List.Pairwise.imp (fun {a b} hab => ?_) h.up)
    have h1 := Go.Proofs.YtfeonjiiijdibaaGreatDoor.path_less a.k.data.toList b.k.data.toList
    unfold ltB at hab ⊢
    rw [Lib.toList_data, Lib.toList_data] at hab ⊢
    rw [← hab]
    exact h1
  · obtain ⟨x, hx, rfl⟩ := hm e he
    show (Nib.bs (Nib.path x.k.data.toList)).size ≤ 12
    rw [Nib.bs_size, Nib.path_length, data_len]
    have := hok x hx
    omega
  · obtain ⟨x, hx, rfl⟩ := hm e he
    exact Nib.valid_path _
  · obtain ⟨x, hx, rfl⟩ := hm e he
    have := hok x hx
    exact ⟨this.2.2.1, this.2.2.2⟩
end Go.Proofs.Can
namespace Go.Proofs.YtfeonjiiijdibaaGreatDoor
open Go.RowKit Go.Proofs.Nod Go.Proofs.Can
open Go.Proofs.Mdl hiding e0
set_option linter.unusedVariables false
set_option linter.unusedSimpArgs false
/-- A node that may be, and is something. -/
structure NdV (n : Nd) : Prop where
  ok : validB n = true
  r16 : n.refs.length = 16
theorem valid_leaf {x : Ent} (h : x.k.size ≤ 12) (hn : Nib.valid x.k.data.toList = true) (hv : 1 ≤ x.v.size ∧ x.v.size ≤ 80) : validB (leafN x.k x.v) = true := by
  rw [validB1 _ rfl]
  have : pathOk x.k = true := by unfold pathOk; rw [hn]; simpa using h
  have h0 : x.v ≠ e0 := fun e => by rw [e] at hv; exact absurd hv.1 (by decide)
  show (decide (leafN x.k x.v = leafN x.k x.v) && _) = true
  simp [leafN, h, hn, h0, hv.2]
theorem rfr_hash0 {r x : ByteArray} (h : hashB r = some x) : rfrB r = some 0 := by
  unfold rfrB refersK
  rw [if_pos (by rw [h]; rfl)]
/-- What the ref of a node tells. -/
theorem rfr_ref {m : Nd} (hm : NdV m) (h0 : m.kind ≠ 0) : rfrB (refB (bytesB m)) = some 0 ∨ rfrB (refB (bytesB m)) = some m.kind := by
  by_cases h : (bytesB m).size < 32
  · right
    have h1 := in_small hm.ok hm.r16 h0 h
    rw [ref_small h]
    unfold rfrB refersK
    rw [hash_small h]
    unfold inB at h1
    rw [h1]
    rfl
  · exact .inl (rfr_hash0 (hash_big h))
theorem valid_ext {p : ByteArray} {m : Nd} (hp : p.size ≤ 12) (hp0 : 1 ≤ p.size) (hn : Nib.valid p.data.toList = true) (hm : NdV m) (h3 : m.kind = 3) : validB (extN p (refB (bytesB m))) = true := by
  have hr := rfr_ref hm (by omega)
  rw [validB2 _ rfl rfl]
  unfold extB
  have h0 : p ≠ e0 := fun e => by rw [e] at hp0; exact absurd hp0 (by decide)
  rw [h3] at hr
  have hrf : rf (extN p (refB (bytesB m))) 0 = refB (bytesB m) := rfl
  rw [hrf]
  generalize refB (bytesB m) = X at *
  show (decide (extN p X = extN p X) && (decide (p ≠ e0) && (decide (p.size ≤ 12) && (Nib.valid p.data.toList && ((rfrB X).isSome && (decide ((rfrB X).getD 0 = 0) || decide ((rfrB X).getD 0 = 3))))))) = true
  rcases hr with hr | hr <;> simp [hr, hp, hn, h0]
theorem rf_fork (sub : Nat → Tr) (l : List Ent) (i : Nat) (hi : i < 16) : rf (forkN sub l) i = if atL i l = [] then e0 else refB (tx (sub i)) := by
  unfold rf forkN forkRefs
  simp only [List.getD_eq_getElem?_getD, List.getElem?_map, List.getElem?_range hi]
  rfl
theorem fork16 (sub : Nat → Tr) (l : List Ent) : (forkN sub l).refs.length = 16 := by unfold forkN forkRefs; simp
/-- How many nibbles go on. -/
def ways (l : List Ent) : Nat := ((List.range 16).filter (fun i => decide (¬ atL i l = []))).length
theorem ways_one {l : List Ent} {i : Nat} (hi : i < 16) (h : ¬ atL i l = []) : 1 ≤ ways l :=
  List.length_pos_of_mem (a := i) (List.mem_filter.2 ⟨List.mem_range.2 hi, by simpa using h⟩)
theorem ways_two {l : List Ent} {i j : Nat} (hj : j < 16) (hij : i < j) (h : ¬ atL i l = []) (h2 : ¬ atL j l = []) : 2 ≤ ways l := by
  unfold ways
  have e : List.range 16 = List.range j ++ (List.range (16 - j)).map (j + ·) := by
    rw [← List.range_add]
    congr 1
    omega
  rw [e, List.filter_append, List.length_append]
  have h1 := List.length_pos_of_mem (a := i) (l := (List.range j).filter (fun i => decide (¬ atL i l = []))) (List.mem_filter.2 ⟨List.mem_range.2 hij, by simpa using h⟩)
  have h3 := List.length_pos_of_mem (a := j) (l := ((List.range (16 - j)).map (j + ·)).filter (fun i => decide (¬ atL i l = []))) (List.mem_filter.2 ⟨List.mem_map.2 ⟨0, List.mem_range.2 (by omega), by omega⟩, by simpa using h2⟩)
  omega
theorem at_small {l : List Ent} (h : ∀ e ∈ l, Nib.valid e.k.data.toList = true) {i : Nat} (hi : ¬ atL i l = []) : i < 16 := by
  obtain ⟨e, he⟩ := List.exists_mem_of_ne_nil _ hi
  obtain ⟨h1, h2⟩ := List.mem_filter.1 he
  obtain ⟨x, r, hx, hv⟩ := isAt_iff.1 h2
  have := h e h1
  rw [hx] at this
  unfold Nib.valid at this
  simp only [List.all_cons, Bool.and_eq_true, decide_eq_true_eq] at this
  have := UInt8.le_iff_toNat_le.1 this.1
  rw [← hv]
  exact Nat.lt_of_le_of_lt this (by decide)
theorem used_fork {sub : Nat → Tr} {l : List Ent} (h : ∀ i, i < 16 → ¬ atL i l = [] → ¬ refB (tx (sub i)) = e0) : (used (forkN sub l) 16).length = ways l := by
  unfold used ways
  rw [List.filter_map, List.length_map]
  congr 1
  refine List.filter_congr (fun i hi => ?_)
  have hi' := List.mem_range.1 hi
  show decide (rf (forkN sub l) i ≠ e0) = decide (¬ atL i l = [])
  rw [rf_fork sub l i hi']
  by_cases ha : atL i l = []
  · simp [ha]
  · simp [ha, h i hi' ha]
theorem tx_of {t : Tr} (h : NdV t.n) : tx t = bytesB t.n := by unfold tx putB; rw [if_pos h.ok]
/-- Paths that may be, two things at least. -/
theorem valid_fork {sub : Nat → Tr} {l : List Ent} (hl : Wf l) (h2 : 2 ≤ l.length) {x z : Ent} (hx : l[0]? = some x) (hz : l.getLast? = some z) (hc : com x.k z.k = 0)
    (hs : ∀ i, ¬ atL i l = [] → NdV (sub i).n ∧ (sub i).n.kind ≠ 0) : validB (forkN sub l) = true := by
  have hne : ∀ i, i < 16 → ¬ atL i l = [] → ¬ refB (tx (sub i)) = e0 := fun i _ h => by
    obtain ⟨h1, h2⟩ := hs i h
    rw [tx_of h1]
    exact ref_ne h1.ok h1.r16
  have hcnt : 2 ≤ min (endV l).size 1 + ways l := by
    rcases fork_two hl.up h2 hx hz hc with ⟨⟨e, he, hk⟩, i, _, hi⟩ | ⟨i, j, _, _, hij, hi, hj⟩
    · have h1 := ways_one (at_small hl.nib hi) hi
      have h3 := (hl.val e he).1
      rw [endV_of hl.up he hk]
      omega
    · have := ways_two (at_small hl.nib hj) hij hi hj
      omega
  rw [validB3 _ rfl (fork16 sub l)]
  unfold branchB
  have hu := used_fork hne
  have hall : (used (forkN sub l) 16).all (fun r => (rfrB r).isSome) = true := by
    rw [List.all_eq_true]
    intro r hr
    obtain ⟨h1, h3⟩ := List.mem_filter.1 hr
    obtain ⟨i, hi, rfl⟩ := List.mem_map.1 h1
    have hi' := List.mem_range.1 hi
    rw [rf_fork sub l i hi'] at h3 ⊢
    by_cases ha : atL i l = []
    · simp [ha] at h3
    · obtain ⟨q1, q2⟩ := hs i ha
      rw [if_neg ha, tx_of q1]
      exact ref_refers q1.ok q1.r16 q2
  have hv := endV_size hl.val hl.up
  rw [hall, hu]
  show (decide (e0 = e0) && (decide ((endV l).size ≤ 80) && (true && decide (2 ≤ min (endV l).size 1 + ways l)))) = true
  simp [hv, hcnt]
/-- What the trie's node is. -/
structure TrOk (l : List Ent) (t : Tr) : Prop where
  nd : NdV t.n
  none : t.n.kind = 0 ↔ l = []
  fork : ∀ x z, 2 ≤ l.length → l[0]? = some x → l.getLast? = some z → com x.k z.k = 0 → t.n.kind = 3
theorem valid_zero : validB zeroN = true := by rw [validB0 _ rfl]; exact decide_eq_true rfl
/-- EACH NODE OF A MAP'S TRIE MAY BE. -/
theorem grow_ok : ∀ (n : Nat) (l : List Ent), Wf l → tot l < n → TrOk l (grow n l)
  | 0, l, _, h => by omega
  | n + 1, [], _, _ => ⟨⟨valid_zero, rfl⟩, ⟨fun _ => rfl, fun _ => rfl⟩, fun x z h => by simp at h⟩
  | n + 1, [x], h, _ => ⟨⟨valid_leaf (h.sz x (List.mem_singleton.2 rfl)) (h.nib x (List.mem_singleton.2 rfl)) (h.val x (List.mem_singleton.2 rfl)), rfl⟩, ⟨fun h => (by cases h), fun h => (by cases h)⟩, fun x z h => by simp at h⟩
  | n + 1, x :: y :: r, hl, ht => by
    obtain ⟨z, hz⟩ : ∃ z, (x :: y :: r).getLast? = some z := ⟨_, List.getLast?_eq_some_getLast (List.cons_ne_nil _ _)⟩
    have h2 : 2 ≤ (x :: y :: r).length := by simp
    rw [grow_two n h2 rfl hz]
    by_cases hc : 0 < com x.k z.k
    · rw [if_pos hc]
      have ha := all_take hl.up hz (Nat.le_refl _)
      have hx := (ha x (List.mem_cons_self ..)).1
      have hlt := tot_wo_lt hc (List.mem_cons_self (a := x) (l := y :: r)) (by omega)
      have ih := grow_ok n _ (hl.wo (fun e he => (ha e he).2)) (by omega)
      obtain ⟨x', z', hx', hz', hc'⟩ := com_rest (l := x :: y :: r) rfl hz
      have h3 := ih.fork x' z' (by rw [wo_length]; exact h2) hx' hz' hc'
      have hxs := hl.sz x (List.mem_cons_self ..)
      have hps : (x.k.extract 0 (com x.k z.k)).size = com x.k z.k := by simp; omega
      have hv := valid_ext (p := x.k.extract 0 (com x.k z.k)) (by omega) (by omega) (by
        rw [pre_data]
        have := hl.nib x (List.mem_cons_self ..)
        unfold Nib.valid at this ⊢
        rw [List.all_eq_true] at this ⊢
        exact fun b hb => this b (List.mem_of_mem_take hb)) ih.nd h3
      refine ⟨⟨?_, rfl⟩, ⟨fun h => (by cases h), fun h => (by cases h)⟩, fun x1 z1 _ h4 h5 h6 => ?_⟩
      · show validB (extN _ (refB (tx _))) = true
        rw [tx_of ih.nd]
        exact hv
      · rw [hz] at h5
        cases h4
        cases h5
        omega
    · rw [if_neg hc]
      have hs : ∀ i, ¬ atL i (x :: y :: r) = [] → NdV (grow n (wo 1 (atL i (x :: y :: r)))).n ∧ (grow n (wo 1 (atL i (x :: y :: r)))).n.kind ≠ 0 := fun i hi => by
        have := tot_at hi
        have ih := grow_ok n _ (hl.at_ i) (by omega)
        refine ⟨ih.nd, fun h => hi ?_⟩
        have := ih.none.1 h
        exact List.length_eq_zero_iff.1 (by rw [← wo_length 1, this]; rfl)
      exact ⟨⟨valid_fork hl h2 rfl hz (by omega) hs, fork16 _ _⟩, ⟨fun h => (by cases h), fun h => (by cases h)⟩, fun _ _ _ _ _ _ => rfl⟩
theorem tree_ok {l : List Ent} (h : Wf l) : TrOk l (treeP l) := grow_ok _ l h (Nat.lt_succ_self _)
end Go.Proofs.YtfeonjiiijdibaaGreatDoor
namespace Go.Proofs.Can
open Go
open Go.Proofs.Mdl (Ent ltB Up ltB_iff ltB_trans bytes_ext getE_of_mem getE_mem getE ext_get)
set_option linter.unusedVariables false
set_option linter.unusedSimpArgs false
theorem up_ext {l m : List Ent} (hl : Up l) (hm : Up m) (h : ∀ e, e ∈ l ↔ e ∈ m) : l = m := by
  refine ext_get hl hm (fun k => ?_)
  cases h1 : getE l k with
  | some v => exact (getE_of_mem hm ((h _).1 (getE_mem h1))).symm
  | none =>
    cases h2 : getE m k with
    | none => rfl
    | some v =>
      have := getE_of_mem hl ((h _).2 (getE_mem h2))
      rw [h1] at this
      cases this
theorem wo_inj {n : Nat} {p : List UInt8} : ∀ {l m : List Ent}, (∀ e ∈ l, e.k.data.toList.take n = p) → (∀ e ∈ m, e.k.data.toList.take n = p) → wo n l = wo n m → l = m
  | [], [], _, _, _ => rfl
  | [], _ :: _, _, _, h => by cases h
  | _ :: _, [], _, _, h => by cases h
  | x :: l, y :: m, h1, h2, h => by
    rw [wo_cons, wo_cons, List.cons.injEq] at h
    obtain ⟨he, hr⟩ := h
    have ih := wo_inj (fun e he => h1 e (List.mem_cons_of_mem _ he)) (fun e he => h2 e (List.mem_cons_of_mem _ he)) hr
    subst ih
    simp only [Mdl.Ent.mk.injEq] at he
    have hk : x.k = y.k := by
      refine bytes_ext ?_
      have e1 := congrArg (fun b : ByteArray => b.data.toList) he.1
      simp only [cut_data] at e1
      rw [← List.take_append_drop n x.k.data.toList, ← List.take_append_drop n y.k.data.toList, e1, h1 x (List.mem_cons_self ..), h2 y (List.mem_cons_self ..)]
    obtain ⟨xk, xv⟩ := x
    obtain ⟨yk, yv⟩ := y
    simp only at hk he
    rw [hk, he.2]
theorem at_smallP {l : List Ent} (h : ∀ e ∈ l, Nib.valid e.k.data.toList = true) {i : Nat} (hi : ¬ atL i l = []) : i < 16 := by
  obtain ⟨e, he⟩ := List.exists_mem_of_ne_nil _ hi
  obtain ⟨h1, h2⟩ := List.mem_filter.1 he
  obtain ⟨x, r, hx, hv⟩ := isAt_iff.1 h2
  have := h e h1
  rw [hx] at this
  unfold Nib.valid at this
  simp only [List.all_cons, Bool.and_eq_true, decide_eq_true_eq] at this
  have := UInt8.le_iff_toNat_le.1 this.1
  rw [← hv]
  exact Nat.lt_of_le_of_lt this (by decide)
/-- The same ends, the same behind each nibble: the same. -/
theorem fork_ext {l m : List Ent} (hl : Wf l) (hm : Wf m) (he : endV l = endV m) (ha : ∀ i, i < 16 → atL i l = atL i m) : l = m := by
  have key : ∀ {l m : List Ent}, Wf l → Wf m → endV l = endV m → (∀ i, i < 16 → atL i l = atL i m) → ∀ e ∈ l, e ∈ m := by
    intro l m hl hm he ha e h
    cases hk : e.k.data.toList with
    | nil =>
      have h1 := endV_of hl.up h hk
      by_cases hx : ∃ x ∈ m, x.k.data.toList = []
      · obtain ⟨x, h2, h3⟩ := hx
        have h4 := endV_of hm.up h2 h3
        have : e = x := by
          obtain ⟨ek, ev⟩ := e
          obtain ⟨xk, xv⟩ := x
          have : ek = xk := bytes_ext (hk.trans h3.symm)
          have h5 : ev = xv := h1.symm.trans (he.trans h4)
          rw [this, h5]
        rw [this]
        exact h2
      · have h4 := endV_none (fun x h2 h3 => hx ⟨x, h2, h3⟩)
        have h5 := (hl.val e h).1
        rw [← h1, he, h4] at h5
        exact absurd h5 (by decide)
    | cons b r =>
      have h1 : e ∈ atL b.toNat l := List.mem_filter.2 ⟨h, isAt_iff.2 ⟨b, r, hk, rfl⟩⟩
      have h2 := at_smallP hl.nib (i := b.toNat) (fun hn => by rw [hn] at h1; cases h1)
      rw [ha _ h2] at h1
      exact (List.mem_filter.1 h1).1
  exact up_ext hl.up hm.up (fun e => ⟨key hl hm he ha e, key hm hl he.symm (fun i hi => (ha i hi).symm) e⟩)
end Go.Proofs.Can
namespace Go.Proofs.YtfeonjiiijdibaaGreatDoor
open Go.RowKit Go.Proofs.Nod Go.Proofs.Can
open Go.Proofs.Mdl hiding e0
set_option linter.unusedVariables false
set_option linter.unusedSimpArgs false
mutual
/-- The bytes of all nodes, each ahead of what it refers to. -/
def texts : Tr → List ByteArray
  | .mk n b => putB n :: textsL b
def textsL : List Tr → List ByteArray
  | [] => []
  | t :: r => texts t ++ textsL r
end
theorem texts_eq (t : Tr) : texts t = tx t :: textsL t.b := by
  cases t
  simp only [texts, tx, Tr.n, Tr.b]
theorem textsL_mem {a : ByteArray} : ∀ {l : List Tr}, a ∈ textsL l ↔ ∃ t ∈ l, a ∈ texts t
  | [] => by simp [textsL]
  | t :: r => by
    simp only [textsL, List.mem_append, List.mem_cons, textsL_mem (l := r)]
    constructor
    · rintro (h | ⟨x, h1, h2⟩)
      · exact ⟨t, .inl rfl, h⟩
      · exact ⟨x, .inr h1, h2⟩
    · rintro ⟨x, rfl | h1, h2⟩
      · exact .inl h2
      · exact .inr ⟨x, h1, h2⟩
theorem texts_sub {t s : Tr} (h : s ∈ t.b) {a : ByteArray} (ha : a ∈ texts s) : a ∈ texts t := by
  rw [texts_eq]
  exact List.mem_cons_of_mem _ (textsL_mem.2 ⟨s, h, ha⟩)
theorem tx_mem (t : Tr) : tx t ∈ texts t := by rw [texts_eq]; exact List.mem_cons_self ..
theorem fork_mem {sub : Nat → Tr} {l : List Ent} {i : Nat} (hi : i < 16) (h : ¬ atL i l = []) : sub i ∈ (forkTr sub l).b :=
  List.mem_filterMap.2 ⟨i, List.mem_range.2 hi, by rw [if_neg h]⟩
/-- Two texts that collide, both by their hashes. -/
def Two (A B : List ByteArray) : Prop := ∃ a ∈ A, ∃ b ∈ B, 32 ≤ a.size ∧ 32 ≤ b.size ∧ ¬ a = b ∧ shaB a = shaB b
theorem Two.mono {A B A' B' : List ByteArray} (h : Two A B) (hA : ∀ x ∈ A, x ∈ A') (hB : ∀ x ∈ B, x ∈ B') : Two A' B' := by
  obtain ⟨a, h1, b, h2, h3⟩ := h
  exact ⟨a, hA a h1, b, hB b h2, h3⟩
theorem ref_same {a b : ByteArray} (h : refB a = refB b) : a = b ∨ 32 ≤ a.size ∧ 32 ≤ b.size ∧ ¬ a = b ∧ shaB a = shaB b := by
  by_cases ha : a.size < 32
  · by_cases hb : b.size < 32
    · rw [ref_small ha, ref_small hb] at h
      exact .inl h
    · rw [ref_small ha] at h
      have := ref_size hb
      rw [← h] at this
      omega
  · by_cases hb : b.size < 32
    · rw [ref_small hb] at h
      have := ref_size ha
      rw [h] at this
      omega
    · have h1 := hash_big ha
      rw [h, hash_big hb] at h1
      by_cases e : a = b
      · exact .inl e
      · exact .inr ⟨by omega, by omega, e, (Option.some.inj h1).symm⟩
/-- A MAP HAS ONE TRIE. -/
theorem tells : ∀ (n : Nat) (l m : List Ent), Wf l → Wf m → tot l < n → tot m < n → tx (grow n l) = tx (grow n m) → l = m ∨ Two (texts (grow n l)) (texts (grow n m))
  | 0, l, m, _, _, h, _, _ => by omega
  | n + 1, l, m, hl, hm, h1, h2, he => by
    have ol := grow_ok (n + 1) l hl h1
    have om := grow_ok (n + 1) m hm h2
    rw [tx_of ol.nd, tx_of om.nd] at he
    have hn := bytes_inj ol.nd.ok om.nd.ok ol.nd.r16 om.nd.r16 he
    have hk0 : l = [] ↔ m = [] := by rw [← ol.none, ← om.none, hn]
    rcases l with _ | ⟨x, _ | ⟨y, r⟩⟩
    · exact .inl (hk0.1 rfl).symm
    · rcases m with _ | ⟨x', _ | ⟨y', r'⟩⟩
      · exact .inl (hk0.2 rfl)
      · have : leafN x.k x.v = leafN x'.k x'.v := hn
        unfold leafN at this
        injection this with _ h3 h4 _
        left
        obtain ⟨xk, xv⟩ := x
        obtain ⟨yk, yv⟩ := x'
        simp only at h3 h4
        rw [h3, h4]
      · exfalso
        obtain ⟨z', hz'⟩ : ∃ z, (x' :: y' :: r').getLast? = some z := ⟨_, List.getLast?_eq_some_getLast (List.cons_ne_nil _ _)⟩
        rw [grow_two n (by simp) rfl hz'] at hn
        split at hn
        · have := congrArg Nd.kind hn
          exact absurd this (by show ¬ (1 : Int) = 2; decide)
        · have := congrArg Nd.kind hn
          exact absurd this (by show ¬ (1 : Int) = 3; decide)
    · obtain ⟨z, hz⟩ : ∃ z, (x :: y :: r).getLast? = some z := ⟨_, List.getLast?_eq_some_getLast (List.cons_ne_nil _ _)⟩
      rcases m with _ | ⟨x', _ | ⟨y', r'⟩⟩
      · exact .inl (hk0.2 rfl)
      · exfalso
        rw [grow_two n (by simp) rfl hz] at hn
        split at hn
        · have := congrArg Nd.kind hn
          exact absurd this (by show ¬ (2 : Int) = 1; decide)
        · have := congrArg Nd.kind hn
          exact absurd this (by show ¬ (3 : Int) = 1; decide)
      · obtain ⟨z', hz'⟩ : ∃ z, (x' :: y' :: r').getLast? = some z := ⟨_, List.getLast?_eq_some_getLast (List.cons_ne_nil _ _)⟩
        generalize hL : x :: y :: r = l at *
        generalize hM : x' :: y' :: r' = m at *
        have hx : l[0]? = some x := by rw [← hL]; rfl
        have hx' : m[0]? = some x' := by rw [← hM]; rfl
        have l2 : 2 ≤ l.length := by rw [← hL]; simp
        have m2 : 2 ≤ m.length := by rw [← hM]; simp
        have xm : x ∈ l := List.mem_of_getElem? hx
        have xm' : x' ∈ m := List.mem_of_getElem? hx'
        rw [grow_two n l2 hx hz] at hn ⊢
        rw [grow_two n m2 hx' hz'] at hn ⊢
        by_cases hc : 0 < com x.k z.k
        · rw [if_pos hc] at hn ⊢
          by_cases hc' : 0 < com x'.k z'.k
          · rw [if_pos hc'] at hn ⊢
            have ha : ∀ e ∈ l, com x.k z.k ≤ e.k.size ∧ e.k.data.toList.take (com x.k z.k) = x.k.data.toList.take (com x.k z.k) := by subst hL; exact all_take hl.up hz (Nat.le_refl _)
            have ha' : ∀ e ∈ m, com x'.k z'.k ≤ e.k.size ∧ e.k.data.toList.take (com x'.k z'.k) = x'.k.data.toList.take (com x'.k z'.k) := by subst hM; exact all_take hm.up hz' (Nat.le_refl _)
            have hp : x.k.extract 0 (com x.k z.k) = x'.k.extract 0 (com x'.k z'.k) := congrArg Nd.path hn
            have hr : refB (tx (grow n (wo (com x.k z.k) l))) = refB (tx (grow n (wo (com x'.k z'.k) m))) := congrArg (fun d : Nd => d.refs.headD e0) hn
            have hcc : com x.k z.k = com x'.k z'.k := by
              have := congrArg ByteArray.size hp
              have q1 := (ha x xm).1
              have q2 := (ha' x' xm').1
              simp at this
              omega
            have hpl : x.k.data.toList.take (com x.k z.k) = x'.k.data.toList.take (com x'.k z'.k) := by rw [← pre_data, ← pre_data, hp]
            have t1 := tot_wo_lt hc xm (by have := (ha x xm).1; omega)
            have t2 := tot_wo_lt hc' xm' (by have := (ha' x' xm').1; omega)
            rcases ref_same hr with h | h
            · rcases tells n _ _ (hl.wo (fun e he => (ha e he).2)) (hm.wo (fun e he => (ha' e he).2)) (by omega) (by omega) h with h | h
              · left
                rw [← hcc] at h ha' hpl
                exact wo_inj (fun e he => (ha e he).2) (fun e he => (ha' e he).2.trans hpl.symm) h
              · right
                exact h.mono (fun a h => texts_sub (List.mem_singleton.2 rfl) h) (fun a h => texts_sub (List.mem_singleton.2 rfl) h)
            · right
              exact ⟨_, texts_sub (t := extTr _ _) (List.mem_singleton.2 rfl) (tx_mem _), _, texts_sub (t := extTr _ _) (List.mem_singleton.2 rfl) (tx_mem _), h⟩
          · exfalso
            rw [if_neg hc'] at hn
            have := congrArg Nd.kind hn
            exact absurd this (by show ¬ (2 : Int) = 3; decide)
        · rw [if_neg hc] at hn ⊢
          by_cases hc' : 0 < com x'.k z'.k
          · exfalso
            rw [if_pos hc'] at hn
            have := congrArg Nd.kind hn
            exact absurd this (by show ¬ (3 : Int) = 2; decide)
          · rw [if_neg hc'] at hn ⊢
            have hv : endV l = endV m := congrArg Nd.value hn
            have hsub : ∀ (l : List Ent), Wf l → tot l < n + 1 → ∀ i, ¬ atL i l = [] → ¬ refB (tx (grow n (wo 1 (atL i l)))) = e0 := fun l hl ht i hi => by
              have := tot_at hi
              have ih := grow_ok n _ (hl.at_ i) (by omega)
              rw [tx_of ih.nd]
              exact ref_ne ih.nd.ok ih.nd.r16
            have hrf : ∀ i, i < 16 → (if atL i l = [] then e0 else refB (tx (grow n (wo 1 (atL i l))))) = (if atL i m = [] then e0 else refB (tx (grow n (wo 1 (atL i m))))) := fun i hi => by
              have := congrArg (fun d : Nd => rf d i) hn
              have e1 := rf_fork (fun i => grow n (wo 1 (atL i l))) l i hi
              have e2 := rf_fork (fun i => grow n (wo 1 (atL i m))) m i hi
              exact e1.symm.trans (this.trans e2)
            by_cases hall : ∀ i, i < 16 → atL i l = atL i m
            · exact .inl (fork_ext hl hm hv hall)
            · obtain ⟨i, hi, hne⟩ : ∃ i, i < 16 ∧ ¬ atL i l = atL i m := by
                by_cases h : ∃ i, i < 16 ∧ ¬ atL i l = atL i m
                · exact h
                · exact absurd (fun i hi => Decidable.byContradiction (fun hh => h ⟨i, hi, hh⟩)) hall
              right
              have hr := hrf i hi
              by_cases a1 : atL i l = []
              · rw [if_pos a1] at hr
                by_cases a2 : atL i m = []
                · exact absurd (a1.trans a2.symm) hne
                · rw [if_neg a2] at hr
                  exact absurd hr.symm (hsub m hm h2 i a2)
              · rw [if_neg a1] at hr
                by_cases a2 : atL i m = []
                · rw [if_pos a2] at hr
                  exact absurd hr (hsub l hl h1 i a1)
                · rw [if_neg a2] at hr
                  have t1 := tot_at a1
                  have t2 := tot_at a2
                  rcases ref_same hr with h | h
                  · rcases tells n _ _ (hl.at_ i) (hm.at_ i) (by omega) (by omega) h with h | h
                    · exact absurd (wo_inj at_take at_take h) hne
                    · exact h.mono (fun a h => texts_sub (fork_mem (sub := fun i => grow n (wo 1 (atL i l))) hi a1) h) (fun a h => texts_sub (fork_mem (sub := fun i => grow n (wo 1 (atL i m))) hi a2) h)
                  · exact ⟨_, texts_sub (fork_mem (sub := fun i => grow n (wo 1 (atL i l))) hi a1) (tx_mem _), _, texts_sub (fork_mem (sub := fun i => grow n (wo 1 (atL i m))) hi a2) (tx_mem _), h⟩
end Go.Proofs.YtfeonjiiijdibaaGreatDoor
namespace Go.Proofs.YtfeonjiiijdibaaGreatDoor
open Go.RowKit Go.Proofs.Nod Go.Proofs.Can
open Go.Proofs.Mdl hiding e0
set_option linter.unusedVariables false
set_option linter.unusedSimpArgs false
/-- A text stands in another one. -/
def Stands (a b : ByteArray) : Prop := a.data.toList <:+: b.data.toList
theorem Stands.refl (a : ByteArray) : Stands a a := List.infix_refl _
theorem Stands.trans {a b c : ByteArray} (h : Stands a b) (k : Stands b c) : Stands a c := List.IsInfix.trans h k
theorem stands_text (v : ByteArray) : Stands v (textB v) := by
  unfold Stands textB
  rw [Nib.bs_data]
  unfold Rlp.text
  split
  · exact List.infix_refl _
  · exact (List.suffix_append _ _).isInfix
theorem stands_list {x : ByteArray} {xs : List ByteArray} (h : x ∈ xs) : Stands x (listB xs) := by
  unfold Stands listB
  rw [Nib.bs_data]
  unfold Rlp.list
  have h1 : x.data.toList <:+: (xs.map (·.data.toList)).flatten := by
    obtain ⟨a, b, rfl⟩ := List.append_of_mem h
    rw [List.map_append, List.map_cons, List.flatten_append, List.flatten_cons]
    exact ⟨_, _, by rw [List.append_assoc]⟩
  exact List.IsInfix.trans h1 (List.suffix_append _ _).isInfix
/-- A value stands in a tree's bytes, or in a node's of it that is told by its hash. -/
def StT (v : ByteArray) (t : Tr) : Prop := Stands v (tx t) ∨ ∃ x ∈ texts t, 32 ≤ x.size ∧ Stands v x
theorem stT_up {v : ByteArray} {t s : Tr} (hs : s ∈ t.b) (ht : ∀ x, x = refB (tx s) → Stands x (tx t)) (h : StT v s) : StT v t := by
  rcases h with h | ⟨x, h1, h2⟩
  · by_cases hz : (tx s).size < 32
    · exact .inl (h.trans (ht _ (ref_small hz).symm))
    · exact .inr ⟨tx s, texts_sub hs (tx_mem s), by omega, h⟩
  · exact .inr ⟨x, texts_sub hs h1, h2⟩
/-- EACH VALUE STANDS IN SOME NODE'S BYTES. -/
theorem grow_stands : ∀ (n : Nat) (l : List Ent), Wf l → tot l < n → ∀ e ∈ l, StT e.v (grow n l)
  | 0, l, _, h, _, _ => by omega
  | n + 1, [], _, _, e, h => by cases h
  | n + 1, [x], hl, ht, e, h => by
    have o := grow_ok (n + 1) [x] hl ht
    rcases List.mem_singleton.1 h with rfl
    left
    rw [tx_of o.nd]
    show Stands e.v (bytesB (leafN e.k e.v))
    exact (stands_text e.v).trans (stands_list (xs := [pathB e.k true, textB e.v]) (by simp))
  | n + 1, x :: y :: r, hl, ht, e, he => by
    obtain ⟨z, hz⟩ : ∃ z, (x :: y :: r).getLast? = some z := ⟨_, List.getLast?_eq_some_getLast (List.cons_ne_nil _ _)⟩
    have h2 : 2 ≤ (x :: y :: r).length := by simp
    have o := grow_ok (n + 1) _ hl ht
    rw [grow_two n h2 rfl hz] at o ⊢
    by_cases hc : 0 < com x.k z.k
    · rw [if_pos hc] at o ⊢
      have ha := all_take hl.up hz (Nat.le_refl _)
      have hx := (ha x (List.mem_cons_self ..)).1
      have hlt := tot_wo_lt hc (List.mem_cons_self (a := x) (l := y :: r)) (by omega)
      have ih := grow_stands n _ (hl.wo (fun e he => (ha e he).2)) (by omega) ⟨e.k.extract (com x.k z.k) e.k.size, e.v⟩ (List.mem_map.2 ⟨e, he, rfl⟩)
      refine stT_up (List.mem_singleton.2 rfl) (fun b hb => ?_) ih
      rw [tx_of o.nd, hb]
      exact stands_list (xs := [pathB (x.k.extract 0 (com x.k z.k)) false, refB (tx (grow n (wo (com x.k z.k) (x :: y :: r))))]) (by simp)
    · rw [if_neg hc] at o ⊢
      have ob : tx (forkTr (fun i => grow n (wo 1 (atL i (x :: y :: r)))) (x :: y :: r)) = listB ((forkRefs (fun i => grow n (wo 1 (atL i (x :: y :: r)))) (x :: y :: r)).map (fun r => if r = e0 then textB e0 else r) ++ [textB (endV (x :: y :: r))]) := tx_of o.nd
      cases hk : e.k.data.toList with
      | nil =>
        left
        rw [ob, ← endV_of hl.up he hk]
        exact (stands_text _).trans (stands_list (by simp))
      | cons b q =>
        have h1 : e ∈ atL b.toNat (x :: y :: r) := List.mem_filter.2 ⟨he, isAt_iff.2 ⟨b, q, hk, rfl⟩⟩
        have hne : ¬ atL b.toNat (x :: y :: r) = [] := fun h => by rw [h] at h1; cases h1
        have hi := at_small hl.nib hne
        have := tot_at hne
        have ih := grow_stands n _ (hl.at_ b.toNat) (by omega) ⟨e.k.extract 1 e.k.size, e.v⟩ (List.mem_map.2 ⟨e, h1, rfl⟩)
        refine stT_up (fork_mem (sub := fun i => grow n (wo 1 (atL i (x :: y :: r)))) hi hne) (fun c hcc => ?_) ih
        have oi := grow_ok n _ (hl.at_ b.toNat) (by omega)
        have hr : ¬ refB (tx (grow n (wo 1 (atL b.toNat (x :: y :: r))))) = e0 := by
          rw [tx_of oi.nd]
          exact ref_ne oi.nd.ok oi.nd.r16
        rw [ob, hcc]
        refine stands_list (List.mem_append.2 (.inl (List.mem_map.2 ⟨_, List.mem_map.2 ⟨b.toNat, List.mem_range.2 hi, rfl⟩, ?_⟩)))
        rw [if_neg hne, if_neg hr]
theorem textsL_length : ∀ l : List Tr, (textsL l).length = (l.map (fun t => (texts t).length)).sum
  | [] => rfl
  | t :: r => by simp [textsL, textsL_length r]
/-- How many entries go on, by a nibble. -/
theorem ways_sum (l : List Ent) (k : Nat) : ((List.range k).map (fun i => (atL i l).length)).sum + (l.filter isEnd).length ≤ l.length := by
  have key : ∀ (l : List Ent), ((List.range k).map (fun i => (atL i l).length)).sum + (l.filter isEnd).length ≤ l.length := by
    intro l
    induction l with
    | nil =>
      have : ∀ js : List Nat, (js.map (fun i => (atL i ([] : List Ent)).length)).sum = 0 := fun js => by
        induction js with
        | nil => rfl
        | cons j js ih => rw [List.map_cons, List.sum_cons, ih]; rfl
      rw [this]
      exact Nat.le_refl _
    | cons e r ih =>
      have h1 : ∀ (js : List Nat), js.Nodup → (js.map (fun i => (atL i (e :: r)).length)).sum ≤ (js.map (fun i => (atL i r).length)).sum + (if isEnd e then 0 else 1) := by
        intro js hj
        induction js with
        | nil => simp
        | cons j js ihj =>
          obtain ⟨h3, h4⟩ := List.nodup_cons.1 hj
          have h5 := ihj h4
          simp only [List.map_cons, List.sum_cons]
          unfold atL
          rw [List.filter_cons]
          by_cases hji : isAt j e = true
          · rw [if_pos hji]
            have h6 : (js.map (fun i => ((e :: r).filter (isAt i)).length)).sum = (js.map (fun i => (r.filter (isAt i)).length)).sum := by
              congr 1
              refine List.map_congr_left (fun i hi => ?_)
              rw [List.filter_cons, if_neg]
              intro h7
              obtain ⟨a, q, ha, hv⟩ := isAt_iff.1 h7
              obtain ⟨a2, q2, ha2, hv2⟩ := isAt_iff.1 hji
              rw [ha] at ha2
              cases ha2
              exact h3 (by rw [← hv2, hv]; exact hi)
            have h8 : isEnd e = false := by
              obtain ⟨a, q, ha, _⟩ := isAt_iff.1 hji
              unfold isEnd
              simp [ha]
            rw [h6, h8]
            simp only [List.length_cons, Bool.false_eq_true, if_false]
            omega
          · rw [if_neg hji]
            unfold atL at h5
            omega
      have h2 := h1 (List.range k) List.nodup_range
      rw [List.filter_cons, List.length_cons]
      cases hE : isEnd e with
      | true => rw [hE] at h2; simp only [if_true] at h2 ⊢; rw [List.length_cons]; omega
      | false => rw [hE] at h2; simp only [Bool.false_eq_true, if_false] at h2 ⊢; omega
  exact key l
theorem sum_le {f g : Nat → Nat} : ∀ (js : List Nat), (∀ j ∈ js, f j ≤ g j) → (js.map f).sum ≤ (js.map g).sum
  | [], _ => Nat.le_refl _
  | j :: js, h => by
    have h1 := h j (List.mem_cons_self ..)
    have h2 := sum_le js (fun i hi => h i (List.mem_cons_of_mem _ hi))
    simp only [List.map_cons, List.sum_cons]
    omega
theorem below_sum (sub : Nat → Tr) (l : List Ent) (js : List Nat) : ((js.filterMap (fun i => if atL i l = [] then none else some (sub i))).map (fun t => (texts t).length)).sum = (js.map (fun i => if atL i l = [] then 0 else (texts (sub i)).length)).sum := by
  induction js with
  | nil => rfl
  | cons j js ih =>
    by_cases h : atL j l = []
    · rw [List.filterMap_cons_none (by rw [if_pos h]), ih]
      simp [h]
    · rw [List.filterMap_cons_some (by rw [if_neg h]), List.map_cons, List.sum_cons, List.map_cons, List.sum_cons, ih, if_neg h]
theorem ways_cnt (l : List Ent) (js : List Nat) : (js.map (fun i => if atL i l = [] then 0 else 3 * (atL i l).length - 2)).sum + 2 * (js.filter (fun i => decide (¬ atL i l = []))).length ≤ 3 * (js.map (fun i => (atL i l).length)).sum := by
  induction js with
  | nil => simp
  | cons j js ih =>
    rw [List.filter_cons]
    by_cases h : atL j l = []
    · rw [if_neg (by simp [h])]
      simp only [List.map_cons, List.sum_cons, h, if_true]
      simp
      simp at ih
      omega
    · have h1 := List.length_pos_iff.2 h
      rw [if_pos (by simpa using h)]
      simp only [List.map_cons, List.sum_cons, if_neg h, List.length_cons]
      omega
/-- THERE ARE AT MOST THREE NODES FOR EACH ENTRY. -/
theorem grow_count : ∀ (n : Nat) (l : List Ent), Wf l → tot l < n → 1 ≤ l.length → (texts (grow n l)).length + 2 ≤ 3 * l.length ∧
    (∀ x z, 2 ≤ l.length → l[0]? = some x → l.getLast? = some z → com x.k z.k = 0 → (texts (grow n l)).length + 3 ≤ 3 * l.length)
  | 0, l, _, h, _ => by omega
  | n + 1, [], _, _, h => by simp at h
  | n + 1, [x], hl, ht, _ => ⟨by rw [texts_eq]; exact Nat.le_refl _, fun x z h => by simp at h⟩
  | n + 1, x :: y :: r, hl, ht, _ => by
    obtain ⟨z, hz⟩ : ∃ z, (x :: y :: r).getLast? = some z := ⟨_, List.getLast?_eq_some_getLast (List.cons_ne_nil _ _)⟩
    have h2 : 2 ≤ (x :: y :: r).length := by simp
    rw [grow_two n h2 rfl hz]
    by_cases hc : 0 < com x.k z.k
    · rw [if_pos hc]
      have ha := all_take hl.up hz (Nat.le_refl _)
      have hx := (ha x (List.mem_cons_self ..)).1
      have hlt := tot_wo_lt hc (List.mem_cons_self (a := x) (l := y :: r)) (by omega)
      have ih := grow_count n _ (hl.wo (fun e he => (ha e he).2)) (by omega) (by rw [wo_length]; omega)
      obtain ⟨x', z', hx', hz', hc'⟩ := com_rest (l := x :: y :: r) rfl hz
      have h3 := ih.2 x' z' (by rw [wo_length]; exact h2) hx' hz' hc'
      rw [wo_length] at h3
      have ht : (texts (extTr (x.k.extract 0 (com x.k z.k)) (grow n (wo (com x.k z.k) (x :: y :: r))))).length = 1 + (texts (grow n (wo (com x.k z.k) (x :: y :: r)))).length := by
        rw [texts_eq]
        simp [extTr, Tr.b, textsL]
        omega
      refine ⟨by omega, fun x1 z1 _ h4 h5 h6 => ?_⟩
      rw [hz] at h5
      cases h4
      cases h5
      omega
    · rw [if_neg hc]
      generalize hL : x :: y :: r = l at *
      have hx0 : l[0]? = some x := by rw [← hL]; rfl
      clear hL
      have h3 : (texts (forkTr (fun i => grow n (wo 1 (atL i l))) l)).length + 3 ≤ 3 * l.length := by
        rw [texts_eq, List.length_cons, textsL_length]
        show ((forkBelow (fun i => grow n (wo 1 (atL i l))) l 16).map _).sum + 1 + 3 ≤ _
        unfold forkBelow
        rw [below_sum]
        have h4 : ((List.range 16).map (fun i => if atL i l = [] then 0 else (texts (grow n (wo 1 (atL i l)))).length)).sum ≤ ((List.range 16).map (fun i => if atL i l = [] then 0 else 3 * (atL i l).length - 2)).sum := by
          refine sum_le _ (fun i _ => ?_)
          by_cases h : atL i l = []
          · rw [if_pos h, if_pos h]; exact Nat.le_refl _
          · rw [if_neg h, if_neg h]
            have h5 := tot_at h
            have h6 := (grow_count n _ (hl.at_ i) (by omega) (by rw [wo_length]; exact List.length_pos_iff.2 h)).1
            rw [wo_length] at h6
            omega
        have h5 := ways_cnt l (List.range 16)
        have h6 := ways_sum l 16
        have h7 : 2 ≤ min (l.filter isEnd).length 1 + ways l := by
          rcases fork_two hl.up h2 hx0 hz (by omega) with ⟨⟨e, he, hk⟩, i, _, hi⟩ | ⟨i, j, _, _, hij, hi, hj⟩
          · have h1 := ways_one (at_small hl.nib hi) hi
            have h3 := List.length_pos_of_mem (a := e) (l := l.filter isEnd) (List.mem_filter.2 ⟨he, by unfold isEnd; simpa using hk⟩)
            omega
          · have := ways_two (at_small hl.nib hj) hij hi hj
            omega
        unfold ways at h7
        omega
      exact ⟨by omega, fun _ _ _ _ _ _ => h3⟩
/-- The nodes: a step of the loop that tells them. -/
def offB (l : List ByteArray) (x : ByteArray) : Bool := l.any (fun y => decide (y = x)) || decide (refB x = x)
theorem offB_iff (l : List ByteArray) (x : ByteArray) : offB l x = true ↔ (x ∈ l ∨ refB x = x) := by
  unfold offB
  rw [Bool.or_eq_true, decide_eq_true_eq, List.any_eq_true]
  constructor
  · rintro (⟨y, h1, h2⟩ | h)
    · exact .inl (of_decide_eq_true h2 ▸ h1)
    · exact .inr h
  · rintro (h | h)
    · exact .inl ⟨x, h, decide_eq_true rfl⟩
    · exact .inr h
def pick (s : List ByteArray × List ByteArray) (x : ByteArray) : List ByteArray × List ByteArray := (x :: s.1, if offB s.1 x then s.2 else s.2 ++ [x])
def picks (root : ByteArray) (l : List ByteArray) : List ByteArray × List ByteArray := l.foldl pick ([root], [root])
theorem picks_snoc (root : ByteArray) (l : List ByteArray) (x : ByteArray) : picks root (l ++ [x]) = pick (picks root l) x := by unfold picks; rw [List.foldl_append]; rfl
def nodesT (t : Tr) : List ByteArray := (picks (tx t) (texts t)).2
structure Picked (root : ByteArray) (l : List ByteArray) (s : List ByteArray × List ByteArray) : Prop where
  seen : ∀ x, x ∈ s.1 ↔ x = root ∨ x ∈ l
  out : ∀ x, x ∈ s.2 ↔ x = root ∨ x ∈ l ∧ ¬ refB x = x
  once : s.2.Nodup
  first : s.2.head? = some root
  few : s.2.length ≤ l.length + 1
theorem picked_step {root : ByteArray} {l : List ByteArray} {s : List ByteArray × List ByteArray} (h : Picked root l s) (x : ByteArray) : Picked root (l ++ [x]) (pick s x) := by
  have hone : ∀ y, y ∈ l ++ [x] ↔ y ∈ l ∨ y = x := fun y => by simp
  refine ⟨fun y => ?_, fun y => ?_, ?_, ?_, ?_⟩
  · show y ∈ x :: s.1 ↔ _
    rw [List.mem_cons, h.seen, hone]
    constructor
    · rintro (h | h | h)
      · exact .inr (.inr h)
      · exact .inl h
      · exact .inr (.inl h)
    · rintro (h | h | h)
      · exact .inr (.inl h)
      · exact .inr (.inr h)
      · exact .inl h
  · show y ∈ (if offB s.1 x then s.2 else s.2 ++ [x]) ↔ _
    rw [hone]
    split
    · next hx =>
      rw [offB_iff] at hx
      rw [h.out]
      constructor
      · rintro (h | ⟨h1, h2⟩)
        · exact .inl h
        · exact .inr ⟨.inl h1, h2⟩
      · rintro (h0 | ⟨h1 | rfl, h2⟩)
        · exact .inl h0
        · exact .inr ⟨h1, h2⟩
        · rcases hx with hx | hx
          · rcases (h.seen y).1 hx with hx | hx
            · exact .inl hx
            · exact .inr ⟨hx, h2⟩
          · exact absurd hx h2
    · next hx =>
      rw [offB_iff] at hx
      rw [List.mem_append, List.mem_singleton, h.out]
      constructor
      · rintro ((h | ⟨h1, h2⟩) | rfl)
        · exact .inl h
        · exact .inr ⟨.inl h1, h2⟩
        · exact .inr ⟨.inr rfl, fun e => hx (.inr e)⟩
      · rintro (h | ⟨h1 | h1, h2⟩)
        · exact .inl (.inl h)
        · exact .inl (.inr ⟨h1, h2⟩)
        · exact .inr h1
  · show (if offB s.1 x then s.2 else s.2 ++ [x]).Nodup
    split
    · exact h.once
    · next hx =>
      rw [offB_iff] at hx
      refine List.nodup_append.2 ⟨h.once, List.nodup_cons.2 ⟨List.not_mem_nil, List.nodup_nil⟩, fun a ha b hb e => ?_⟩
      rcases List.mem_singleton.1 hb with rfl
      subst e
      rcases (h.out a).1 ha with e | ⟨e, _⟩
      · exact hx (.inl ((h.seen a).2 (.inl e)))
      · exact hx (.inl ((h.seen a).2 (.inr e)))
  · show (if offB s.1 x then s.2 else s.2 ++ [x]).head? = _
    split
    · exact h.first
    · rw [List.head?_append, h.first]; rfl
  · show (if offB s.1 x then s.2 else s.2 ++ [x]).length ≤ _
    have := h.few
    split
    · simp; omega
    · simp; omega
theorem picked_all {root : ByteArray} : ∀ (l pre : List ByteArray) (s : List ByteArray × List ByteArray), Picked root pre s → Picked root (pre ++ l) (l.foldl pick s)
  | [], pre, s, h => by rw [List.append_nil]; exact h
  | x :: l, pre, s, h => by
    rw [List.foldl_cons, show pre ++ x :: l = (pre ++ [x]) ++ l by simp]
    exact picked_all l _ _ (picked_step h x)
theorem picked (root : ByteArray) (l : List ByteArray) : Picked root l (picks root l) := by
  have := picked_all (root := root) l [] ([root], [root]) ⟨fun x => by simp, fun x => by simp, by simp, rfl, by simp⟩
  rwa [List.nil_append] at this
end Go.Proofs.YtfeonjiiijdibaaGreatDoor
