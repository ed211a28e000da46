/-
  Package model, plain data: maps as rising rows of entries, changes, what makes one of another one.
-/
import Derived.WalkKit
import Derived.Sort.Walk0
namespace Go.Proofs.Mdl
open Go
set_option linter.unusedVariables false
set_option linter.unusedSimpArgs false
def ltB (a b : ByteArray) : Bool := Op.bytesLess a.toList b.toList
theorem ltB_iff {a b : ByteArray} : ltB a b = true ↔ a.data.toList < b.data.toList := by
  unfold ltB
  rw [bytesLess_eq, Lib.toList_data, Lib.toList_data]
  simp
theorem bytes_ext {a b : ByteArray} (h : a.data.toList = b.data.toList) : a = b := by
  obtain ⟨⟨a⟩⟩ := a
  obtain ⟨⟨b⟩⟩ := b
  simp only at h
  rw [h]
theorem ltB_irrefl (a : ByteArray) : ltB a a = false := by
  rw [Bool.eq_false_iff]
  intro h
  exact List.lt_irrefl _ (ltB_iff.1 h)
theorem ltB_trans {a b c : ByteArray} (h : ltB a b = true) (k : ltB b c = true) : ltB a c = true := ltB_iff.2 (List.lt_trans (ltB_iff.1 h) (ltB_iff.1 k))
theorem ltB_asymm {a b : ByteArray} (h : ltB a b = true) : ltB b a = false := by
  rw [Bool.eq_false_iff]
  intro k
  have := ltB_trans h k
  rw [ltB_irrefl] at this
  cases this
theorem ltB_conn {a b : ByteArray} (h : ltB a b = false) (k : ltB b a = false) : a = b := by
  refine bytes_ext (List.le_antisymm (fun h2 => ?_) (fun h2 => ?_))
  · rw [ltB_iff.2 h2] at k; cases k
  · rw [ltB_iff.2 h2] at h; cases h
structure Ent where
  k : ByteArray
  v : ByteArray
deriving DecidableEq
structure Chg where
  k : ByteArray
  v : ByteArray
  gone : Bool
deriving DecidableEq
def e0 : ByteArray := ⟨#[]⟩
def keyOk (k : ByteArray) : Bool := decide (1 ≤ k.size) && decide (k.size ≤ 6)
def valOk (v : ByteArray) : Bool := decide (1 ≤ v.size) && decide (v.size ≤ 80)
def entOk (e : Ent) : Bool := keyOk e.k && valOk e.v
def chOk (c : Chg) : Bool := keyOk c.k && (if c.gone then decide (c.v.size = 0) else valOk c.v)
def Up (l : List Ent) : Prop := l.Pairwise (fun x y => ltB x.k y.k = true)
/-- Each entry may be, and is behind the one ahead. -/
def adj : List Ent → Bool
  | [] => true
  | e :: r => entOk e && (match r with | [] => true | f :: _ => ltB e.k f.k) && adj r
def checkN (l : List Ent) : Int := if adj l then (if 40 < l.length then 12 else 0) else 1
theorem adj_iff : ∀ (l : List Ent), adj l = true ↔ ∀ j (x : Ent), l[j]? = some x → entOk x = true ∧ ∀ i (y : Ent), j = i + 1 → l[i]? = some y → ltB y.k x.k = true
  | [] => ⟨fun _ j x h => by simp at h, fun _ => rfl⟩
  | [e] => by
    constructor
    · intro h j x hj
      cases j with
      | zero =>
        simp only [List.getElem?_cons_zero, Option.some.injEq] at hj
        subst hj
        simp only [adj, Bool.and_true] at h
        exact ⟨h, fun i y hi => by omega⟩
      | succ j => simp at hj
    · intro h
      simp only [adj, Bool.and_true]
      exact (h 0 e rfl).1
  | e :: f :: r => by
    have ih := adj_iff (f :: r)
    simp only [adj, Bool.and_eq_true] at ih ⊢
    constructor
    · rintro ⟨⟨h1, h2⟩, h3⟩ j x hj
      have h4 := ih.1 h3
      cases j with
      | zero =>
        simp only [List.getElem?_cons_zero, Option.some.injEq] at hj
        subst hj
        exact ⟨h1, fun i y hi => by omega⟩
      | succ j =>
        have hj' : (f :: r)[j]? = some x := by simpa using hj
        refine ⟨(h4 j x hj').1, fun i y hi hy => ?_⟩
        obtain rfl : i = j := by omega
        cases i with
        | zero =>
          simp only [List.getElem?_cons_zero, Option.some.injEq] at hy hj'
          subst hy; subst hj'
          exact h2
        | succ i => exact (h4 (i + 1) x hj').2 i y rfl (by simpa using hy)
    · intro h
      refine ⟨⟨(h 0 e rfl).1, ?_⟩, ih.2 (fun j x hj => ?_)⟩
      · exact (h 1 f rfl).2 0 e rfl rfl
      · obtain ⟨h1, h2⟩ := h (j + 1) x (by simpa using hj)
        refine ⟨h1, fun i y hi hy => h2 (i + 1) y (by omega) (by simpa using hy)⟩
theorem adj_up : ∀ {l : List Ent}, adj l = true → Up l
  | [], _ => List.Pairwise.nil
  | [e], _ => List.pairwise_singleton _ _
  | e :: f :: r, h => by
    simp only [adj, Bool.and_eq_true] at h
    have ih : Up (f :: r) := adj_up (l := f :: r) (by simp only [adj, Bool.and_eq_true]; exact h.2)
    refine List.pairwise_cons.2 ⟨fun y hy => ?_, ih⟩
    rcases List.mem_cons.1 hy with rfl | hy
    · exact h.1.2
    · exact ltB_trans h.1.2 ((List.pairwise_cons.1 ih).1 y hy)
theorem adj_ok {l : List Ent} (h : adj l = true) : ∀ e ∈ l, entOk e = true := fun e he => by
  obtain ⟨j, hj⟩ := List.getElem?_of_mem he
  exact ((adj_iff l).1 h j e hj).1
theorem adj_of : ∀ {l : List Ent}, Up l → (∀ e ∈ l, entOk e = true) → adj l = true
  | [], _, _ => rfl
  | [e], _, h => by simp only [adj, Bool.and_true]; exact h e (List.mem_singleton.2 rfl)
  | e :: f :: r, hu, h => by
    obtain ⟨h1, h2⟩ := List.pairwise_cons.1 hu
    have ih := adj_of (l := f :: r) h2 (fun x hx => h x (List.mem_cons_of_mem _ hx))
    simp only [adj, Bool.and_eq_true] at ih ⊢
    exact ⟨⟨h e (List.mem_cons_self ..), h1 f (List.mem_cons_self ..)⟩, ih⟩
/-- A map: few entries, that may be, rising. -/
structure Good (l : List Ent) : Prop where
  up : Up l
  ok : ∀ e ∈ l, entOk e = true
  few : l.length ≤ 40
theorem good_iff {l : List Ent} : checkN l = 0 ↔ Good l := by
  unfold checkN
  constructor
  · intro h
    split at h
    · next ha =>
      split at h
      · cases h
      · exact ⟨adj_up ha, adj_ok ha, by omega⟩
    · cases h
  · intro h
    rw [if_pos (adj_of h.up h.ok), if_neg (by have := h.few; omega)]
theorem good_nil : Good [] := ⟨List.Pairwise.nil, (fun e h => absurd h List.not_mem_nil), Nat.zero_le _⟩
/-- A key's value. -/
def getE : List Ent → ByteArray → Option ByteArray
  | [], _ => none
  | e :: r, k => if e.k = k then some e.v else getE r k
theorem getE_cons (e : Ent) (r : List Ent) (k : ByteArray) : getE (e :: r) k = if e.k = k then some e.v else getE r k := rfl
def putE : List Ent → ByteArray → ByteArray → List Ent
  | [], k, v => [⟨k, v⟩]
  | e :: r, k, v => if ltB e.k k then e :: putE r k v else if e.k = k then ⟨k, v⟩ :: r else ⟨k, v⟩ :: e :: r
def delE (l : List Ent) (k : ByteArray) : List Ent := l.filter (fun e => decide (¬ e.k = k))
def chgE (l : List Ent) (c : Chg) : List Ent := if c.gone then delE l c.k else putE l c.k c.v
def applyL (l : List Ent) (cs : List Chg) : List Ent := cs.foldl chgE l
theorem getE_none {l : List Ent} {k : ByteArray} (h : ∀ e ∈ l, ¬ e.k = k) : getE l k = none := by
  induction l with
  | nil => rfl
  | cons e r ih =>
    unfold getE
    rw [if_neg (h e (List.mem_cons_self ..))]
    exact ih (fun x hx => h x (List.mem_cons_of_mem _ hx))
theorem getE_mem {l : List Ent} {k v : ByteArray} (h : getE l k = some v) : (⟨k, v⟩ : Ent) ∈ l := by
  induction l with
  | nil => cases h
  | cons e r ih =>
    unfold getE at h
    by_cases he : e.k = k
    · rw [if_pos he] at h
      cases h
      subst he
      exact List.mem_cons_self ..
    · rw [if_neg he] at h
      exact List.mem_cons_of_mem _ (ih h)
theorem ltB_ne {a b : ByteArray} (h : ltB a b = true) : ¬ a = b := fun e => by
  subst e
  rw [ltB_irrefl] at h
  cases h
theorem getE_of_mem {l : List Ent} (hu : Up l) {e : Ent} (h : e ∈ l) : getE l e.k = some e.v := by
  induction l with
  | nil => cases h
  | cons x r ih =>
    obtain ⟨h1, h2⟩ := List.pairwise_cons.1 hu
    unfold getE
    rcases List.mem_cons.1 h with rfl | h
    · rw [if_pos rfl]
    · rw [if_neg (ltB_ne (h1 e h))]
      exact ih h2 h
/-- Two maps that tell the same are the same. -/
theorem ext_get : ∀ {l m : List Ent}, Up l → Up m → (∀ k, getE l k = getE m k) → l = m
  | [], [], _, _, _ => rfl
  | [], y :: m, _, _, h => by
    have := h y.k
    unfold getE at this
    rw [if_pos rfl] at this
    cases this
  | x :: l, [], _, _, h => by
    have := h x.k
    unfold getE at this
    rw [if_pos rfl] at this
    cases this
  | x :: l, y :: m, hl, hm, h => by
    obtain ⟨l1, l2⟩ := List.pairwise_cons.1 hl
    obtain ⟨m1, m2⟩ := List.pairwise_cons.1 hm
    have hx : getE (y :: m) x.k = some x.v := by rw [← h]; exact getE_of_mem hl (List.mem_cons_self ..)
    have hy : getE (x :: l) y.k = some y.v := by rw [h]; exact getE_of_mem hm (List.mem_cons_self ..)
    have hxy : x.k = y.k := by
      rcases List.mem_cons.1 (getE_mem hx) with e | e
      · rw [← e]
      · rcases List.mem_cons.1 (getE_mem hy) with e2 | e2
        · rw [← e2]
        · have h1 := m1 _ e
          have h2 := l1 _ e2
          have := ltB_trans h1 h2
          rw [ltB_irrefl] at this
          cases this
    have hv : x = y := by
      have : getE (y :: m) y.k = some y.v := getE_of_mem hm (List.mem_cons_self ..)
      rw [hxy, this] at hx
      cases x; cases y
      simp only at hxy hx
      cases hx
      rw [hxy]
    subst hv
    congr 1
    refine ext_get l2 m2 (fun k => ?_)
    by_cases hk : x.k = k
    · subst hk
      rw [getE_none (fun e he => fun e2 => ltB_ne (l1 e he) e2.symm), getE_none (fun e he => fun e2 => ltB_ne (m1 e he) e2.symm)]
    · have := h k
      unfold getE at this
      rwa [if_neg hk, if_neg hk] at this
theorem putE_mem {l : List Ent} {k v : ByteArray} {e : Ent} (h : e ∈ putE l k v) : e = ⟨k, v⟩ ∨ e ∈ l := by
  induction l with
  | nil => exact .inl (List.mem_singleton.1 h)
  | cons x r ih =>
    unfold putE at h
    split at h
    · rcases List.mem_cons.1 h with rfl | h
      · exact .inr (List.mem_cons_self ..)
      · exact (ih h).imp id (List.mem_cons_of_mem _)
    · split at h
      · rcases List.mem_cons.1 h with h | h
        · exact .inl h
        · exact .inr (List.mem_cons_of_mem _ h)
      · rcases List.mem_cons.1 h with h | h
        · exact .inl h
        · exact .inr h
theorem putE_up {l : List Ent} (hu : Up l) (k v : ByteArray) : Up (putE l k v) := by
  induction l with
  | nil => exact List.pairwise_singleton _ _
  | cons x r ih =>
    obtain ⟨h1, h2⟩ := List.pairwise_cons.1 hu
    unfold putE
    by_cases hlt : ltB x.k k = true
    · rw [if_pos hlt]
      refine List.pairwise_cons.2 ⟨fun y hy => ?_, ih h2⟩
      rcases putE_mem hy with rfl | hy
      · exact hlt
      · exact h1 y hy
    · rw [if_neg hlt]
      by_cases he : x.k = k
      · rw [if_pos he]
        exact List.pairwise_cons.2 ⟨fun y hy => by have := h1 y hy; rwa [he] at this, h2⟩
      · rw [if_neg he]
        have hgt : ltB k x.k = true := by
          cases hc : ltB k x.k with
          | true => rfl
          | false => exact absurd (ltB_conn (by simpa using hlt) hc) he
        refine List.pairwise_cons.2 ⟨fun y hy => ?_, hu⟩
        rcases List.mem_cons.1 hy with rfl | hy
        · exact hgt
        · exact ltB_trans hgt (h1 y hy)
theorem getE_put {l : List Ent} (hu : Up l) (k v u : ByteArray) : getE (putE l k v) u = if k = u then some v else getE l u := by
  induction l with
  | nil => rfl
  | cons x r ih =>
    obtain ⟨h1, h2⟩ := List.pairwise_cons.1 hu
    unfold putE
    by_cases hlt : ltB x.k k = true
    · rw [if_pos hlt]
      have hne := ltB_ne hlt
      by_cases hx : x.k = u
      · subst hx
        unfold getE
        rw [if_pos rfl, if_pos rfl, if_neg (fun e => hne e.symm)]
      · unfold getE
        rw [if_neg hx, if_neg hx, ih h2]
    · rw [if_neg hlt]
      by_cases he : x.k = k
      · rw [if_pos he]
        by_cases hk : k = u
        · subst hk; unfold getE; rw [if_pos rfl, if_pos rfl]
        · unfold getE; rw [if_neg hk, if_neg hk, if_neg (by rw [he]; exact hk)]
      · rw [if_neg he]
        by_cases hk : k = u
        · subst hk; unfold getE; rw [if_pos rfl, if_pos rfl]
        · show (if k = u then some v else getE (x :: r) u) = _
          rfl
theorem delE_up {l : List Ent} (hu : Up l) (k : ByteArray) : Up (delE l k) := List.Pairwise.sublist List.filter_sublist hu
theorem getE_del (l : List Ent) (k u : ByteArray) : getE (delE l k) u = if k = u then none else getE l u := by
  induction l with
  | nil => unfold delE; simp [getE]
  | cons x r ih =>
    unfold delE at ih ⊢
    rw [List.filter_cons]
    by_cases hx : x.k = k
    · rw [if_neg (by simp [hx]), ih]
      by_cases hk : k = u
      · rw [if_pos hk, if_pos hk]
      · rw [if_neg hk, if_neg hk, getE_cons, if_neg (by rw [hx]; exact hk)]
    · rw [if_pos (by simp [hx])]
      rw [getE_cons, getE_cons]
      by_cases hu : x.k = u
      · rw [if_pos hu, if_pos hu, if_neg (fun e => hx (hu.trans e.symm))]
      · rw [if_neg hu, if_neg hu, ih]
theorem chgE_up {l : List Ent} (hu : Up l) (c : Chg) : Up (chgE l c) := by
  unfold chgE
  split
  · exact delE_up hu _
  · exact putE_up hu _ _
theorem applyL_up : ∀ (cs : List Chg) {l : List Ent}, Up l → Up (applyL l cs)
  | [], _, h => h
  | c :: r, _, h => applyL_up r (chgE_up h c)
def tell (c : Chg) : Option ByteArray := if c.gone then none else some c.v
theorem getE_chg {l : List Ent} (hu : Up l) (c : Chg) (u : ByteArray) : getE (chgE l c) u = if c.k = u then tell c else getE l u := by
  unfold chgE tell
  by_cases h : c.gone = true
  · rw [if_pos h, if_pos h, getE_del]
  · rw [if_neg h, if_neg h, getE_put hu]
/-- What is told last of a key. -/
def lastC : List Chg → ByteArray → Option Chg
  | [], _ => none
  | c :: r, k => match lastC r k with
    | some d => some d
    | none => if c.k = k then some c else none
theorem lastC_cons (c : Chg) (r : List Chg) (k : ByteArray) : lastC (c :: r) k = match lastC r k with | some d => some d | none => if c.k = k then some c else none := rfl
theorem getE_apply : ∀ (cs : List Chg) {l : List Ent}, Up l → ∀ u, getE (applyL l cs) u = match lastC cs u with | some c => tell c | none => getE l u
  | [], _, _, _ => rfl
  | c :: r, l, h, u => by
    show getE (applyL (chgE l c) r) u = _
    rw [getE_apply r (chgE_up h c) u, getE_chg h, lastC_cons]
    cases lastC r u with
    | some d => rfl
    | none =>
      simp only
      by_cases hc : c.k = u
      · rw [if_pos hc, if_pos hc]
      · rw [if_neg hc, if_neg hc]
theorem ents_ok {l : List Ent} (hu : Up l) (h : ∀ e ∈ l, entOk e = true) {k v : ByteArray} (hg : getE l k = some v) : keyOk k = true ∧ valOk v = true := by
  have := h _ (getE_mem hg)
  unfold entOk at this
  simpa using this
theorem chgE_ok {l : List Ent} (h : ∀ e ∈ l, entOk e = true) {c : Chg} (hc : chOk c = true) : ∀ e ∈ chgE l c, entOk e = true := by
  intro e he
  unfold chgE at he
  unfold chOk at hc
  split at he
  · exact h e (List.mem_filter.1 he).1
  · next hg =>
    rw [if_neg hg] at hc
    rcases putE_mem he with rfl | he
    · exact hc
    · exact h e he
theorem applyL_ok : ∀ (cs : List Chg) {l : List Ent}, (∀ e ∈ l, entOk e = true) → (∀ c ∈ cs, chOk c = true) → ∀ e ∈ applyL l cs, entOk e = true
  | [], _, h, _ => h
  | c :: r, _, h, k => applyL_ok r (chgE_ok h (k c (List.mem_cons_self ..))) (fun x hx => k x (List.mem_cons_of_mem _ hx))
/-- Apply. -/
def applyM (l : List Ent) (cs : List Chg) : List Ent × Int :=
  if checkN l = 0 then
    if cs.all chOk then
      if 40 < (applyL l cs).length then ([], 12) else (applyL l cs, 0)
    else ([], 1)
  else ([], checkN l)
theorem applyM_good {l : List Ent} {cs : List Chg} (h : (applyM l cs).2 = 0) : Good l ∧ (∀ c ∈ cs, chOk c = true) ∧ (applyM l cs).1 = applyL l cs ∧ Good (applyL l cs) := by
  unfold applyM at h ⊢
  split at h
  · next h1 =>
    split at h
    · next h2 =>
      split at h
      · cases h
      · next h3 =>
        have g := good_iff.1 h1
        have hc : ∀ c ∈ cs, chOk c = true := fun c hc => by simpa using List.all_eq_true.1 h2 c hc
        rw [if_pos h1, if_pos h2, if_neg h3]
        exact ⟨g, hc, rfl, applyL_up cs g.up, applyL_ok cs g.ok hc, by omega⟩
    · cases h
  · next h1 => exact absurd h h1
/-- What makes one map of another one. -/
def diffL : List Ent → List Ent → List Chg
  | [], [] => []
  | a :: x, [] => ⟨a.k, e0, true⟩ :: diffL x []
  | [], b :: y => ⟨b.k, b.v, false⟩ :: diffL [] y
  | a :: x, b :: y => if ltB a.k b.k then ⟨a.k, e0, true⟩ :: diffL x (b :: y) else if ltB b.k a.k then ⟨b.k, b.v, false⟩ :: diffL (a :: x) y else (if a.v = b.v then [] else [⟨b.k, b.v, false⟩]) ++ diffL x y
termination_by x y => x.length + y.length
def diffM (a b : List Ent) : List Chg := if checkN a = 0 ∧ checkN b = 0 then diffL a b else []
end Go.Proofs.Mdl
