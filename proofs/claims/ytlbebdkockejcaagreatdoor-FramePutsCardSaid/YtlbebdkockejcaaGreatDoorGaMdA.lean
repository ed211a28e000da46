/-
  Merged: MdlPlain, MdlDiff, MdlShow.
-/
import Derived.WalkKit
import Derived.Sort.Walk0
import Derived.Test.YtlbebdkockejcaaGreatDoorRowK
import Derived.Lib.Hide
import Derived.LoopIn
namespace Go.Proofs.Mdl
open Go
set_option linter.unusedVariables false
set_option linter.unusedSimpArgs false
def ltB (a b : ByteArray) : Bool := Op.bytesLess a.toList b.toList
theorem ltB_iff {a b : ByteArray} : ltB a b = true ↔ a.data.toList < b.data.toList := by
  unfold ltB
  rw [bytesLess_eq, Lib.toList_data, Lib.toList_data]
  simp
theorem bytes_ext {a b : ByteArray} (h : a.data.toList = b.data.toList) : a = b := by
  obtain ⟨⟨a⟩⟩ := a
  obtain ⟨⟨b⟩⟩ := b
  simp only at h
  rw [h]
theorem ltB_irrefl (a : ByteArray) : ltB a a = false := by
  rw [Bool.eq_false_iff]
  intro h
  exact List.lt_irrefl _ (ltB_iff.1 h)
theorem ltB_trans {a b c : ByteArray} (h : ltB a b = true) (k : ltB b c = true) : ltB a c = true := ltB_iff.2 (List.lt_trans (ltB_iff.1 h) (ltB_iff.1 k))
theorem ltB_asymm {a b : ByteArray} (h : ltB a b = true) : ltB b a = false := by
  rw [Bool.eq_false_iff]
  intro k
  have := ltB_trans h k
  rw [ltB_irrefl] at this
  cases this
theorem ltB_conn {a b : ByteArray} (h : ltB a b = false) (k : ltB b a = false) : a = b := by
  refine bytes_ext (List.le_antisymm (fun h2 => ?_) (fun h2 => ?_))
  · rw [ltB_iff.2 h2] at k; cases k
  · rw [ltB_iff.2 h2] at h; cases h
structure Ent where
  k : ByteArray
  v : ByteArray
deriving DecidableEq
structure Chg where
  k : ByteArray
  v : ByteArray
  gone : Bool
deriving DecidableEq
def e0 : ByteArray := ⟨#[]⟩
def keyOk (k : ByteArray) : Bool := decide (1 ≤ k.size) && decide (k.size ≤ 6)
def valOk (v : ByteArray) : Bool := decide (1 ≤ v.size) && decide (v.size ≤ 80)
def entOk (e : Ent) : Bool := keyOk e.k && valOk e.v
def chOk (c : Chg) : Bool := keyOk c.k && (if c.gone then decide (c.v.size = 0) else valOk c.v)
def Up (l : List Ent) : Prop := l.Pairwise (fun x y => ltB x.k y.k = true)
/-- Each entry may be, and is behind the one ahead. -/
def adj : List Ent → Bool
  | [] => true
  | e :: r => entOk e && (match r with | [] => true | f :: _ => ltB e.k f.k) && adj r
def checkN (l : List Ent) : Int := if adj l then (if 40 < l.length then 12 else 0) else 1
theorem adj_iff : ∀ (l : List Ent), adj l = true ↔ ∀ j (x : Ent), l[j]? = some x → entOk x = true ∧ ∀ i (y : Ent), j = i + 1 → l[i]? = some y → ltB y.k x.k = true
  | [] => ⟨fun _ j x h => by simp at h, fun _ => rfl⟩
  | [e] => by
    constructor
    · intro h j x hj
      cases j with
      | zero =>
        simp only [List.getElem?_cons_zero, Option.some.injEq] at hj
        subst hj
        simp only [adj, Bool.and_true] at h
        exact ⟨h, fun i y hi => by omega⟩
      | succ j => simp at hj
    · intro h
      simp only [adj, Bool.and_true]
      exact (h 0 e rfl).1
  | e :: f :: r => by
    have ih := adj_iff (f :: r)
    simp only [adj, Bool.and_eq_true] at ih ⊢
    constructor
    · rintro ⟨⟨h1, h2⟩, h3⟩ j x hj
      have h4 := ih.1 h3
      cases j with
      | zero =>
        simp only [List.getElem?_cons_zero, Option.some.injEq] at hj
        subst hj
        exact ⟨h1, fun i y hi => by omega⟩
      | succ j =>
        have hj' : (f :: r)[j]? = some x := by simpa using hj
        refine ⟨(h4 j x hj').1, fun i y hi hy => ?_⟩
        obtain rfl : i = j := by omega
        cases i with
        | zero =>
          simp only [List.getElem?_cons_zero, Option.some.injEq] at hy hj'
          subst hy; subst hj'
          exact h2
        | succ i => exact (h4 (i + 1) x hj').2 i y rfl (by simpa using hy)
    · intro h
      refine ⟨⟨(h 0 e rfl).1, ?_⟩, ih.2 (fun j x hj => ?_)⟩
      · exact (h 1 f rfl).2 0 e rfl rfl
      · obtain ⟨h1, h2⟩ := h (j + 1) x (by simpa using hj)
        refine ⟨h1, fun i y hi hy => h2 (i + 1) y (by omega) (by simpa using hy)⟩
theorem adj_up : ∀ {l : List Ent}, adj l = true → Up l
  | [], _ => List.Pairwise.nil
  | [e], _ => List.pairwise_singleton _ _
  | e :: f :: r, h => by
    simp only [adj, Bool.and_eq_true] at h
    have ih : Up (f :: r) := adj_up (l := f :: r) (by simp only [adj, Bool.and_eq_true]; exact h.2)
    refine List.pairwise_cons.2 ⟨fun y hy => ?_, ih⟩
    rcases List.mem_cons.1 hy with rfl | hy
    · exact h.1.2
    · exact ltB_trans h.1.2 ((List.pairwise_cons.1 ih).1 y hy)
theorem adj_ok {l : List Ent} (h : adj l = true) : ∀ e ∈ l, entOk e = true := fun e he => by
  obtain ⟨j, hj⟩ := List.getElem?_of_mem he
  exact ((adj_iff l).1 h j e hj).1
theorem adj_of : ∀ {l : List Ent}, Up l → (∀ e ∈ l, entOk e = true) → adj l = true
  | [], _, _ => rfl
  | [e], _, h => by simp only [adj, Bool.and_true]; exact h e (List.mem_singleton.2 rfl)
  | e :: f :: r, hu, h => by
    obtain ⟨h1, h2⟩ := List.pairwise_cons.1 hu
    have ih := adj_of (l := f :: r) h2 (fun x hx => h x (List.mem_cons_of_mem _ hx))
    simp only [adj, Bool.and_eq_true] at ih ⊢
    exact ⟨⟨h e (List.mem_cons_self ..), h1 f (List.mem_cons_self ..)⟩, ih⟩
/-- A map: few entries, that may be, rising. -/
structure Good (l : List Ent) : Prop where
  up : Up l
  ok : ∀ e ∈ l, entOk e = true
  few : l.length ≤ 40
theorem good_iff {l : List Ent} : checkN l = 0 ↔ Good l := by
  unfold checkN
  constructor
  · intro h
    split at h
    · next ha =>
      split at h
      · cases h
      · exact ⟨adj_up ha, adj_ok ha, by omega⟩
    · cases h
  · intro h
    rw [if_pos (adj_of h.up h.ok), if_neg (by have := h.few; omega)]
theorem good_nil : Good [] := ⟨List.Pairwise.nil, (fun e h => absurd h List.not_mem_nil), Nat.zero_le _⟩
/-- A key's value. -/
def getE : List Ent → ByteArray → Option ByteArray
  | [], _ => none
  | e :: r, k => if e.k = k then some e.v else getE r k
theorem getE_cons (e : Ent) (r : List Ent) (k : ByteArray) : getE (e :: r) k = if e.k = k then some e.v else getE r k := rfl
def putE : List Ent → ByteArray → ByteArray → List Ent
  | [], k, v => [⟨k, v⟩]
  | e :: r, k, v => if ltB e.k k then e :: putE r k v else if e.k = k then ⟨k, v⟩ :: r else ⟨k, v⟩ :: e :: r
def delE (l : List Ent) (k : ByteArray) : List Ent := l.filter (fun e => decide (¬ e.k = k))
def chgE (l : List Ent) (c : Chg) : List Ent := if c.gone then delE l c.k else putE l c.k c.v
def applyL (l : List Ent) (cs : List Chg) : List Ent := cs.foldl chgE l
theorem getE_none {l : List Ent} {k : ByteArray} (h : ∀ e ∈ l, ¬ e.k = k) : getE l k = none := by
  induction l with
  | nil => rfl
  | cons e r ih =>
    unfold getE
    rw [if_neg (h e (List.mem_cons_self ..))]
    exact ih (fun x hx => h x (List.mem_cons_of_mem _ hx))
theorem getE_mem {l : List Ent} {k v : ByteArray} (h : getE l k = some v) : (⟨k, v⟩ : Ent) ∈ l := by
  induction l with
  | nil => cases h
  | cons e r ih =>
    unfold getE at h
    by_cases he : e.k = k
    · rw [if_pos he] at h
      cases h
      subst he
      exact List.mem_cons_self ..
    · rw [if_neg he] at h
      exact List.mem_cons_of_mem _ (ih h)
theorem ltB_ne {a b : ByteArray} (h : ltB a b = true) : ¬ a = b := fun e => by
  subst e
  rw [ltB_irrefl] at h
  cases h
theorem getE_of_mem {l : List Ent} (hu : Up l) {e : Ent} (h : e ∈ l) : getE l e.k = some e.v := by
  induction l with
  | nil => cases h
  | cons x r ih =>
    obtain ⟨h1, h2⟩ := List.pairwise_cons.1 hu
    unfold getE
    rcases List.mem_cons.1 h with rfl | h
    · rw [if_pos rfl]
    · rw [if_neg (ltB_ne (h1 e h))]
      exact ih h2 h
/-- Two maps that tell the same are the same. -/
theorem ext_get : ∀ {l m : List Ent}, Up l → Up m → (∀ k, getE l k = getE m k) → l = m
  | [], [], _, _, _ => rfl
  | [], y :: m, _, _, h => by
    have := h y.k
    unfold getE at this
    rw [if_pos rfl] at this
    cases this
  | x :: l, [], _, _, h => by
    have := h x.k
    unfold getE at this
    rw [if_pos rfl] at this
    cases this
  | x :: l, y :: m, hl, hm, h => by
    obtain ⟨l1, l2⟩ := List.pairwise_cons.1 hl
    obtain ⟨m1, m2⟩ := List.pairwise_cons.1 hm
    have hx : getE (y :: m) x.k = some x.v := by rw [← h]; exact getE_of_mem hl (List.mem_cons_self ..)
    have hy : getE (x :: l) y.k = some y.v := by rw [h]; exact getE_of_mem hm (List.mem_cons_self ..)
    have hxy : x.k = y.k := by
      rcases List.mem_cons.1 (getE_mem hx) with e | e
      · rw [← e]
      · rcases List.mem_cons.1 (getE_mem hy) with e2 | e2
        · rw [← e2]
        · have h1 := m1 _ e
          have h2 := l1 _ e2
          have := ltB_trans h1 h2
          rw [ltB_irrefl] at this
          cases this
    have hv : x = y := by
      have : getE (y :: m) y.k = some y.v := getE_of_mem hm (List.mem_cons_self ..)
      rw [hxy, this] at hx
      cases x; cases y
      simp only at hxy hx
      cases hx
      rw [hxy]
    subst hv
    congr 1
    refine ext_get l2 m2 (fun k => ?_)
    by_cases hk : x.k = k
    · subst hk
      rw [getE_none (fun e he => fun e2 => ltB_ne (l1 e he) e2.symm), getE_none (fun e he => fun e2 => ltB_ne (m1 e he) e2.symm)]
    · have := h k
      unfold getE at this
      rwa [if_neg hk, if_neg hk] at this
theorem putE_mem {l : List Ent} {k v : ByteArray} {e : Ent} (h : e ∈ putE l k v) : e = ⟨k, v⟩ ∨ e ∈ l := by
  induction l with
  | nil => exact .inl (List.mem_singleton.1 h)
  | cons x r ih =>
    unfold putE at h
    split at h
    · rcases List.mem_cons.1 h with rfl | h
      · exact .inr (List.mem_cons_self ..)
      · exact (ih h).imp id (List.mem_cons_of_mem _)
    · split at h
      · rcases List.mem_cons.1 h with h | h
        · exact .inl h
        · exact .inr (List.mem_cons_of_mem _ h)
      · rcases List.mem_cons.1 h with h | h
        · exact .inl h
        · exact .inr h
theorem putE_up {l : List Ent} (hu : Up l) (k v : ByteArray) : Up (putE l k v) := by
  induction l with
  | nil => exact List.pairwise_singleton _ _
  | cons x r ih =>
    obtain ⟨h1, h2⟩ := List.pairwise_cons.1 hu
    unfold putE
    by_cases hlt : ltB x.k k = true
    · rw [if_pos hlt]
      refine List.pairwise_cons.2 ⟨fun y hy => ?_, ih h2⟩
      rcases putE_mem hy with rfl | hy
      · exact hlt
      · exact h1 y hy
    · rw [if_neg hlt]
      by_cases he : x.k = k
      · rw [if_pos he]
        exact List.pairwise_cons.2 ⟨fun y hy => by have := h1 y hy; rwa [he] at this, h2⟩
      · rw [if_neg he]
        have hgt : ltB k x.k = true := by
          cases hc : ltB k x.k with
          | true => rfl
          | false => exact absurd (ltB_conn (by simpa using hlt) hc) he
        refine List.pairwise_cons.2 ⟨fun y hy => ?_, hu⟩
        rcases List.mem_cons.1 hy with rfl | hy
        · exact hgt
        · exact ltB_trans hgt (h1 y hy)
theorem getE_put {l : List Ent} (hu : Up l) (k v u : ByteArray) : getE (putE l k v) u = if k = u then some v else getE l u := by
  induction l with
  | nil => rfl
  | cons x r ih =>
    obtain ⟨h1, h2⟩ := List.pairwise_cons.1 hu
    unfold putE
    by_cases hlt : ltB x.k k = true
    · rw [if_pos hlt]
      have hne := ltB_ne hlt
      by_cases hx : x.k = u
      · subst hx
        unfold getE
        rw [if_pos rfl, if_pos rfl, if_neg (fun e => hne e.symm)]
      · unfold getE
        rw [if_neg hx, if_neg hx, ih h2]
    · rw [if_neg hlt]
      by_cases he : x.k = k
      · rw [if_pos he]
        by_cases hk : k = u
        · subst hk; unfold getE; rw [if_pos rfl, if_pos rfl]
        · unfold getE; rw [if_neg hk, if_neg hk, if_neg (by rw [he]; exact hk)]
      · rw [if_neg he]
        by_cases hk : k = u
        · subst hk; unfold getE; rw [if_pos rfl, if_pos rfl]
        · show (if k = u then some v else getE (x :: r) u) = _
          rfl
theorem delE_up {l : List Ent} (hu : Up l) (k : ByteArray) : Up (delE l k) := List.Pairwise.sublist List.filter_sublist hu
theorem getE_del (l : List Ent) (k u : ByteArray) : getE (delE l k) u = if k = u then none else getE l u := by
  induction l with
  | nil => unfold delE; simp [getE]
  | cons x r ih =>
    unfold delE at ih ⊢
    rw [List.filter_cons]
    by_cases hx : x.k = k
    · rw [if_neg (by simp [hx]), ih]
      by_cases hk : k = u
      · rw [if_pos hk, if_pos hk]
      · rw [if_neg hk, if_neg hk, getE_cons, if_neg (by rw [hx]; exact hk)]
    · rw [if_pos (by simp [hx])]
      rw [getE_cons, getE_cons]
      by_cases hu : x.k = u
      · rw [if_pos hu, if_pos hu, if_neg (fun e => hx (hu.trans e.symm))]
      · rw [if_neg hu, if_neg hu, ih]
theorem chgE_up {l : List Ent} (hu : Up l) (c : Chg) : Up (chgE l c) := by
  unfold chgE
  split
  · exact delE_up hu _
  · exact putE_up hu _ _
theorem applyL_up : ∀ (cs : List Chg) {l : List Ent}, Up l → Up (applyL l cs)
  | [], _, h => h
  | c :: r, _, h => applyL_up r (chgE_up h c)
def tell (c : Chg) : Option ByteArray := if c.gone then none else some c.v
theorem getE_chg {l : List Ent} (hu : Up l) (c : Chg) (u : ByteArray) : getE (chgE l c) u = if c.k = u then tell c else getE l u := by
  unfold chgE tell
  by_cases h : c.gone = true
  · rw [if_pos h, if_pos h, getE_del]
  · rw [if_neg h, if_neg h, getE_put hu]
/-- What is told last of a key. -/
def lastC : List Chg → ByteArray → Option Chg
  | [], _ => none
  | c :: r, k => match lastC r k with
    | some d => some d
    | none => if c.k = k then some c else none
theorem lastC_cons (c : Chg) (r : List Chg) (k : ByteArray) : lastC (c :: r) k = match lastC r k with | some d => some d | none => if c.k = k then some c else none := rfl
theorem getE_apply : ∀ (cs : List Chg) {l : List Ent}, Up l → ∀ u, getE (applyL l cs) u = match lastC cs u with | some c => tell c | none => getE l u
  | [], _, _, _ => rfl
  | c :: r, l, h, u => by
    show getE (applyL (chgE l c) r) u = _
    rw [getE_apply r (chgE_up h c) u, getE_chg h, lastC_cons]
    cases lastC r u with
    | some d => rfl
    | none =>
      simp only
      by_cases hc : c.k = u
      · rw [if_pos hc, if_pos hc]
      · rw [if_neg hc, if_neg hc]
theorem ents_ok {l : List Ent} (hu : Up l) (h : ∀ e ∈ l, entOk e = true) {k v : ByteArray} (hg : getE l k = some v) : keyOk k = true ∧ valOk v = true := by
  have := h _ (getE_mem hg)
  unfold entOk at this
  simpa using this
theorem chgE_ok {l : List Ent} (h : ∀ e ∈ l, entOk e = true) {c : Chg} (hc : chOk c = true) : ∀ e ∈ chgE l c, entOk e = true := by
  intro e he
  unfold chgE at he
  unfold chOk at hc
  split at he
  · exact h e (List.mem_filter.1 he).1
  · next hg =>
    rw [if_neg hg] at hc
    rcases putE_mem he with rfl | he
    · exact hc
    · exact h e he
theorem applyL_ok : ∀ (cs : List Chg) {l : List Ent}, (∀ e ∈ l, entOk e = true) → (∀ c ∈ cs, chOk c = true) → ∀ e ∈ applyL l cs, entOk e = true
  | [], _, h, _ => h
  | c :: r, _, h, k => applyL_ok r (chgE_ok h (k c (List.mem_cons_self ..))) (fun x hx => k x (List.mem_cons_of_mem _ hx))
/-- Apply. -/
def applyM (l : List Ent) (cs : List Chg) : List Ent × Int :=
  if checkN l = 0 then
    if cs.all chOk then
      if 40 < (applyL l cs).length then ([], 12) else (applyL l cs, 0)
    else ([], 1)
  else ([], checkN l)
theorem applyM_good {l : List Ent} {cs : List Chg} (h : (applyM l cs).2 = 0) : Good l ∧ (∀ c ∈ cs, chOk c = true) ∧ (applyM l cs).1 = applyL l cs ∧ Good (applyL l cs) := by
  unfold applyM at h ⊢
  split at h
  · next h1 =>
    split at h
    · next h2 =>
      split at h
      · cases h
      · next h3 =>
        have g := good_iff.1 h1
        have hc : ∀ c ∈ cs, chOk c = true := fun c hc => by simpa using List.all_eq_true.1 h2 c hc
        rw [if_pos h1, if_pos h2, if_neg h3]
        exact ⟨g, hc, rfl, applyL_up cs g.up, applyL_ok cs g.ok hc, by omega⟩
    · cases h
  · next h1 => exact absurd h h1
/-- What makes one map of another one. -/
def diffL : List Ent → List Ent → List Chg
  | [], [] => []
  | a :: x, [] => ⟨a.k, e0, true⟩ :: diffL x []
  | [], b :: y => ⟨b.k, b.v, false⟩ :: diffL [] y
  | a :: x, b :: y => if ltB a.k b.k then ⟨a.k, e0, true⟩ :: diffL x (b :: y) else if ltB b.k a.k then ⟨b.k, b.v, false⟩ :: diffL (a :: x) y else (if a.v = b.v then [] else [⟨b.k, b.v, false⟩]) ++ diffL x y
termination_by x y => x.length + y.length
def diffM (a b : List Ent) : List Chg := if checkN a = 0 ∧ checkN b = 0 then diffL a b else []
end Go.Proofs.Mdl
namespace Go.Proofs.Mdl
open Go
set_option linter.unusedVariables false
set_option linter.unusedSimpArgs false
theorem diffL_nn : diffL [] [] = [] := by rw [diffL]
theorem diffL_cn (a : Ent) (x : List Ent) : diffL (a :: x) [] = ⟨a.k, e0, true⟩ :: diffL x [] := by rw [diffL]
theorem diffL_nc (b : Ent) (y : List Ent) : diffL [] (b :: y) = ⟨b.k, b.v, false⟩ :: diffL [] y := by rw [diffL]
theorem diffL_cc (a b : Ent) (x y : List Ent) : diffL (a :: x) (b :: y) = if ltB a.k b.k then ⟨a.k, e0, true⟩ :: diffL x (b :: y) else if ltB b.k a.k then ⟨b.k, b.v, false⟩ :: diffL (a :: x) y else (if a.v = b.v then [] else [⟨b.k, b.v, false⟩]) ++ diffL x y := by rw [diffL]
def dif (k : ByteArray) : Option ByteArray → Option ByteArray → Option Chg
  | none, none => none
  | some _, none => some ⟨k, e0, true⟩
  | none, some y => some ⟨k, y, false⟩
  | some x, some y => if x = y then none else some ⟨k, y, false⟩
theorem up_head {a : Ent} {x : List Ent} (h : Up (a :: x)) : getE x a.k = none := getE_none (fun e he e2 => ltB_ne ((List.pairwise_cons.1 h).1 e he) e2.symm)
theorem up_low {a : Ent} {x : List Ent} {k : ByteArray} (h : Up (a :: x)) (hk : ltB k a.k = true) : getE (a :: x) k = none := getE_none (fun e he e2 => by
  subst e2
  rcases List.mem_cons.1 he with rfl | he
  · rw [ltB_irrefl] at hk; cases hk
  · have := ltB_trans hk ((List.pairwise_cons.1 h).1 e he)
    rw [ltB_irrefl] at this
    cases this)
theorem miss (c : Chg) {k : ByteArray} (h : ¬ c.k = k) (d : Option Chg) : (match d with | some d => some d | none => if c.k = k then some c else none) = d := by
  cases d with
  | none => simp [h]
  | some d => rfl
theorem lastC_diff : ∀ (n : Nat) (a b : List Ent), a.length + b.length ≤ n → Up a → Up b → ∀ k, lastC (diffL a b) k = dif k (getE a k) (getE b k)
  | _, [], [], _, _, _, k => by rw [diffL_nn]; rfl
  | 0, a :: x, b, h, _, _, _ => by simp at h
  | 0, [], b :: y, h, _, _, _ => by simp at h
  | n + 1, a :: x, [], h, ha, hb, k => by
    rw [diffL_cn, lastC_cons, lastC_diff n x [] (by simp at h ⊢; omega) (List.pairwise_cons.1 ha).2 hb k, getE_cons]
    by_cases hk : a.k = k
    · subst hk
      rw [if_pos rfl, up_head ha]
      simp [dif, getE]
    · rw [if_neg hk]
      cases getE x k <;> simp [dif, getE, hk]
  | n + 1, [], b :: y, h, ha, hb, k => by
    rw [diffL_nc, lastC_cons, lastC_diff n [] y (by simp at h ⊢; omega) ha (List.pairwise_cons.1 hb).2 k, getE_cons]
    by_cases hk : b.k = k
    · subst hk
      rw [if_pos rfl, up_head hb]
      simp [dif, getE]
    · rw [if_neg hk]
      cases getE y k <;> simp [dif, getE, hk]
  | n + 1, a :: x, b :: y, h, ha, hb, k => by
    have ha2 := (List.pairwise_cons.1 ha).2
    have hb2 := (List.pairwise_cons.1 hb).2
    simp only [List.length_cons] at h
    rw [diffL_cc]
    by_cases h1 : ltB a.k b.k = true
    · rw [if_pos h1, lastC_cons, lastC_diff n x (b :: y) (by simp; omega) ha2 hb k]
      by_cases hk : a.k = k
      · subst hk
        rw [getE_cons a x, if_pos rfl, up_head ha, up_low hb h1]
        simp [dif]
      · rw [show getE (a :: x) k = getE x k from (getE_cons a x k).trans (if_neg hk)]
        exact miss ⟨a.k, e0, true⟩ hk _
    · rw [if_neg h1]
      by_cases h2 : ltB b.k a.k = true
      · rw [if_pos h2, lastC_cons, lastC_diff n (a :: x) y (by simp; omega) ha hb2 k]
        by_cases hk : b.k = k
        · subst hk
          rw [getE_cons b y, if_pos rfl, up_head hb, up_low ha h2]
          simp [dif]
        · rw [show getE (b :: y) k = getE y k from (getE_cons b y k).trans (if_neg hk)]
          exact miss ⟨b.k, b.v, false⟩ hk _
      · rw [if_neg h2]
        have hab : a.k = b.k := ltB_conn (by simpa using h1) (by simpa using h2)
        have ih := lastC_diff n x y (by omega) ha2 hb2 k
        rw [getE_cons a x, getE_cons b y, hab]
        have hx : getE x b.k = none := by rw [← hab]; exact up_head ha
        by_cases hk : b.k = k
        · subst hk
          rw [if_pos rfl, if_pos rfl]
          rw [hx, up_head hb] at ih
          by_cases hv : a.v = b.v
          · rw [if_pos hv, List.nil_append, ih]; simp [dif, hv]
          · rw [if_neg hv, List.singleton_append, lastC_cons, ih]; simp [dif, hv]
        · rw [if_neg hk, if_neg hk]
          by_cases hv : a.v = b.v
          · rw [if_pos hv, List.nil_append, ih]
          · rw [if_neg hv, List.singleton_append, lastC_cons, ih]
            cases dif k (getE x k) (getE y k) <;> simp [hk]
/-- WHAT MAKES ONE MAP OF ANOTHER ONE, DONE, MAKES IT. -/
theorem apply_diff {a b : List Ent} (ha : Up a) (hb : Up b) : applyL a (diffL a b) = b := by
  refine ext_get (applyL_up _ ha) hb (fun k => ?_)
  rw [getE_apply _ ha, lastC_diff _ a b (Nat.le_refl _) ha hb]
  cases h1 : getE a k with
  | none =>
    cases h2 : getE b k with
    | none => simp [dif]
    | some v => simp [dif, tell]
  | some u =>
    cases h2 : getE b k with
    | none => simp [dif, tell]
    | some v =>
      by_cases hv : u = v
      · subst hv; simp [dif]
      · simp [dif, hv, tell]
theorem chOk_gone {k : ByteArray} (h : keyOk k = true) : chOk ⟨k, e0, true⟩ = true := by
  unfold chOk
  rw [h]
  rfl
theorem diff_ok : ∀ (n : Nat) (a b : List Ent), a.length + b.length ≤ n → (∀ e ∈ a, entOk e = true) → (∀ e ∈ b, entOk e = true) → ∀ c ∈ diffL a b, chOk c = true
  | _, [], [], _, _, _ => by rw [diffL_nn]; intro c hc; cases hc
  | 0, a :: x, b, h, _, _ => by simp at h
  | 0, [], b :: y, h, _, _ => by simp at h
  | n + 1, a :: x, [], h, ha, hb => by
    rw [diffL_cn]
    intro c hc
    rcases List.mem_cons.1 hc with rfl | hc
    · have := ha a (List.mem_cons_self ..)
      unfold entOk at this
      simp only [Bool.and_eq_true] at this
      exact chOk_gone this.1
    · exact diff_ok n x [] (by simp at h ⊢; omega) (fun e he => ha e (List.mem_cons_of_mem _ he)) hb c hc
  | n + 1, [], b :: y, h, ha, hb => by
    rw [diffL_nc]
    intro c hc
    rcases List.mem_cons.1 hc with rfl | hc
    · exact hb b (List.mem_cons_self ..)
    · exact diff_ok n [] y (by simp at h ⊢; omega) ha (fun e he => hb e (List.mem_cons_of_mem _ he)) c hc
  | n + 1, a :: x, b :: y, h, ha, hb => by
    simp only [List.length_cons] at h
    have ha2 : ∀ e ∈ x, entOk e = true := fun e he => ha e (List.mem_cons_of_mem _ he)
    have hb2 : ∀ e ∈ y, entOk e = true := fun e he => hb e (List.mem_cons_of_mem _ he)
    rw [diffL_cc]
    intro c hc
    split at hc
    · rcases List.mem_cons.1 hc with rfl | hc
      · have := ha a (List.mem_cons_self ..)
        unfold entOk at this
        simp only [Bool.and_eq_true] at this
        exact chOk_gone this.1
      · exact diff_ok n x (b :: y) (by simp; omega) ha2 hb c hc
    · split at hc
      · rcases List.mem_cons.1 hc with rfl | hc
        · exact hb b (List.mem_cons_self ..)
        · exact diff_ok n (a :: x) y (by simp; omega) ha hb2 c hc
      · rcases List.mem_append.1 hc with hc | hc
        · split at hc
          · cases hc
          · rw [List.mem_singleton] at hc
            subst hc
            exact hb b (List.mem_cons_self ..)
        · exact diff_ok n x y (by omega) ha2 hb2 c hc
theorem diff_len : ∀ (n : Nat) (a b : List Ent), a.length + b.length ≤ n → (diffL a b).length ≤ a.length + b.length
  | _, [], [], _ => by rw [diffL_nn]; exact Nat.zero_le _
  | 0, a :: x, b, h => by simp at h
  | 0, [], b :: y, h => by simp at h
  | n + 1, a :: x, [], h => by
    rw [diffL_cn]
    have := diff_len n x [] (by simp at h ⊢; omega)
    simp at this ⊢
    omega
  | n + 1, [], b :: y, h => by
    rw [diffL_nc]
    have := diff_len n [] y (by simp at h ⊢; omega)
    simp at this ⊢
    omega
  | n + 1, a :: x, b :: y, h => by
    simp only [List.length_cons] at h
    rw [diffL_cc]
    split
    · have := diff_len n x (b :: y) (by simp; omega)
      simp at this ⊢
      omega
    · split
      · have := diff_len n (a :: x) y (by simp; omega)
        simp at this ⊢
        omega
      · have := diff_len n x y (by omega)
        split <;> simp <;> omega
theorem diff_self : ∀ (a : List Ent), diffL a a = []
  | [] => diffL_nn
  | a :: x => by rw [diffL_cc, ltB_irrefl]; simp [diff_self x]
theorem diffM_good {a b : List Ent} (ha : Good a) (hb : Good b) : diffM a b = diffL a b := by unfold diffM; rw [if_pos ⟨good_iff.2 ha, good_iff.2 hb⟩]
theorem applyM_diff {a b : List Ent} (ha : Good a) (hb : Good b) : applyM a (diffM a b) = (b, 0) := by
  rw [diffM_good ha hb]
  unfold applyM
  rw [if_pos (good_iff.2 ha), if_pos (List.all_eq_true.2 (fun c hc => diff_ok _ a b (Nat.le_refl _) ha.ok hb.ok c hc)), apply_diff ha.up hb.up, if_neg (by have := hb.few; omega)]
end Go.Proofs.Mdl
namespace Go.Proofs.YtlbebdkockejcaaGreatDoor
open Go.RowKit Go.Proofs.Mdl
set_option linter.unusedVariables false
set_option linter.unusedSimpArgs false
def cellE (e : Ent) : List Value := [.string e.k, .string e.v]
def flatE (l : List Ent) : List Value := l.flatMap cellE
def cellC (c : Chg) : List Value := [.string c.k, .string c.v, .bool c.gone]
def flatC (l : List Chg) : List Value := l.flatMap cellC
theorem flatE_cons (e : Ent) (l : List Ent) : flatE (e :: l) = cellE e ++ flatE l := rfl
theorem flatC_cons (c : Chg) (l : List Chg) : flatC (c :: l) = cellC c ++ flatC l := rfl
theorem flatE_length (l : List Ent) : (flatE l).length = l.length * 2 := by
  induction l with
  | nil => rfl
  | cons a r ih => rw [flatE_cons, List.length_append, ih]; simp [cellE]; omega
theorem flatC_length (l : List Chg) : (flatC l).length = l.length * 3 := by
  induction l with
  | nil => rfl
  | cons a r ih => rw [flatC_cons, List.length_append, ih]; simp [cellC]; omega
theorem flatE_append (a b : List Ent) : flatE (a ++ b) = flatE a ++ flatE b := by simp [flatE, List.flatMap_append]
theorem flatC_append (a b : List Chg) : flatC (a ++ b) = flatC a ++ flatC b := by simp [flatC, List.flatMap_append]
theorem one_flatE (l : List Ent) : ∀ v ∈ flatE l, v.oneCell' = true := by
  intro v hv
  obtain ⟨e, _, hv⟩ := List.mem_flatMap.1 hv
  unfold cellE at hv
  simp only [List.mem_cons, List.not_mem_nil, or_false] at hv
  rcases hv with rfl | rfl <;> rfl
theorem one_flatC (l : List Chg) : ∀ v ∈ flatC l, v.oneCell' = true := by
  intro v hv
  obtain ⟨e, _, hv⟩ := List.mem_flatMap.1 hv
  unfold cellC at hv
  simp only [List.mem_cons, List.not_mem_nil, or_false] at hv
  rcases hv with rfl | rfl | rfl <;> rfl
theorem flatE_at : ∀ (l : List Ent) (j : Nat) (e : Ent), l[j]? = some e → (flatE l)[j * 2]? = some (.string e.k) ∧ (flatE l)[j * 2 + 1]? = some (.string e.v)
  | [], j, s, h => by simp at h
  | x :: r, 0, s, h => by
    simp only [List.getElem?_cons_zero, Option.some.injEq] at h
    subst h
    exact ⟨rfl, rfl⟩
  | x :: r, j + 1, s, h => by
    have := flatE_at r j s (by simpa using h)
    have e : ∀ k, (flatE (x :: r))[(j + 1) * 2 + k]? = (flatE r)[j * 2 + k]? := fun k => by
      rw [flatE_cons, List.getElem?_append_right (by simp [cellE]; omega)]
      congr 1
      simp [cellE]
      omega
    exact ⟨(e 0).trans this.1, (e 1).trans this.2⟩
theorem flatC_at : ∀ (l : List Chg) (j : Nat) (c : Chg), l[j]? = some c → (flatC l)[j * 3]? = some (.string c.k) ∧ (flatC l)[j * 3 + 1]? = some (.string c.v) ∧ (flatC l)[j * 3 + 2]? = some (.bool c.gone)
  | [], j, s, h => by simp at h
  | x :: r, 0, s, h => by
    simp only [List.getElem?_cons_zero, Option.some.injEq] at h
    subst h
    exact ⟨rfl, rfl, rfl⟩
  | x :: r, j + 1, s, h => by
    have := flatC_at r j s (by simpa using h)
    have e : ∀ k, (flatC (x :: r))[(j + 1) * 3 + k]? = (flatC r)[j * 3 + k]? := fun k => by
      rw [flatC_cons, List.getElem?_append_right (by simp [cellC]; omega)]
      congr 1
      simp [cellC]
      omega
    exact ⟨(e 0).trans this.1, (e 1).trans this.2.1, (e 2).trans this.2.2⟩
/-- What a slice of entries shows. -/
def Es (w : World) (v : Value) (l : List Ent) : Prop := ∃ A c, v = .slice A l.length c ∧ l.length ≤ c ∧ Vs w A (flatE l)
def Cs (w : World) (v : Value) (l : List Chg) : Prop := ∃ A c, v = .slice A l.length c ∧ l.length ≤ c ∧ Vs w A (flatC l)
section
variable {w w' : World} {v : Value}
theorem Es.below {l : List Ent} (h : Es w v l) (k : Below w.heap.size w w') : Es w' v l := by
  obtain ⟨A, c, h1, h2, h3⟩ := h
  exact ⟨A, c, h1, h2, h3.below k⟩
theorem Cs.below {l : List Chg} (h : Cs w v l) (k : Below w.heap.size w w') : Cs w' v l := by
  obtain ⟨A, c, h1, h2, h3⟩ := h
  exact ⟨A, c, h1, h2, h3.below k⟩
theorem Es.nil (w : World) : Es w (.slice none 0 0) [] := ⟨none, 0, rfl, Nat.le_refl _, .inl rfl⟩
theorem Cs.nil (w : World) : Cs w (.slice none 0 0) [] := ⟨none, 0, rfl, Nat.le_refl _, .inl rfl⟩
theorem Es.shape {l : List Ent} (h : Es w v l) : ∃ A c, v = .slice A l.length c := by
  obtain ⟨A, c, h1, _⟩ := h
  exact ⟨A, c, h1⟩
theorem Cs.shape {l : List Chg} (h : Cs w v l) : ∃ A c, v = .slice A l.length c := by
  obtain ⟨A, c, h1, _⟩ := h
  exact ⟨A, c, h1⟩
theorem Es.vs {A : Option Addr} {n c : Nat} {l : List Ent} (h : Es w (.slice A n c) l) : n = l.length ∧ l.length ≤ c ∧ Vs w A (flatE l) := by
  obtain ⟨A', c', e, h2, h3⟩ := h
  simp only [Value.slice.injEq] at e
  obtain ⟨rfl, rfl, rfl⟩ := e
  exact ⟨rfl, h2, h3⟩
theorem Cs.vs {A : Option Addr} {n c : Nat} {l : List Chg} (h : Cs w (.slice A n c) l) : n = l.length ∧ l.length ≤ c ∧ Vs w A (flatC l) := by
  obtain ⟨A', c', e, h2, h3⟩ := h
  simp only [Value.slice.injEq] at e
  obtain ⟨rfl, rfl, rfl⟩ := e
  exact ⟨rfl, h2, h3⟩
theorem Es.of_own {base : Nat} {T : TypeId} {l : List Ent} (h : w.ownsRow base T 2 v l.length (flatE l)) : Es w v l := Vs.of_own h (flatE_length l)
theorem Cs.of_own {base : Nat} {T : TypeId} {l : List Chg} (h : w.ownsRow base T 3 v l.length (flatC l)) : Cs w v l := Vs.of_own h (flatC_length l)
theorem Es.at_ {l : List Ent} (h : Es w v l) {k : Nat} {e : Ent} (hk : l[k]? = some e) : ∃ b o c, v = .slice (some ⟨b, o, none⟩) l.length c ∧ b < w.heap.size ∧ w.cell? ⟨b, o + k * 2, none⟩ = some (.string e.k) ∧ w.cell? ⟨b, o + k * 2 + 1, none⟩ = some (.string e.v) := by
  obtain ⟨A, c, h1, h2, h3⟩ := h
  obtain ⟨e0, e1⟩ := flatE_at l k e hk
  obtain ⟨b, o, rfl, hb, hc⟩ := h3.at_ _ _ e0
  exact ⟨b, o, c, h1, hb, hc _ _ e0, by have := hc _ _ e1; rwa [← Nat.add_assoc] at this⟩
theorem Cs.at_ {l : List Chg} (h : Cs w v l) {k : Nat} {e : Chg} (hk : l[k]? = some e) : ∃ b o c, v = .slice (some ⟨b, o, none⟩) l.length c ∧ b < w.heap.size ∧ w.cell? ⟨b, o + k * 3, none⟩ = some (.string e.k) ∧ w.cell? ⟨b, o + k * 3 + 1, none⟩ = some (.string e.v) ∧ w.cell? ⟨b, o + k * 3 + 2, none⟩ = some (.bool e.gone) := by
  obtain ⟨A, c, h1, h2, h3⟩ := h
  obtain ⟨e0, e1, e2⟩ := flatC_at l k e hk
  obtain ⟨b, o, rfl, hb, hc⟩ := h3.at_ _ _ e0
  exact ⟨b, o, c, h1, hb, hc _ _ e0, by have := hc _ _ e1; rwa [← Nat.add_assoc] at this, by have := hc _ _ e2; rwa [← Nat.add_assoc] at this⟩
end
/-- .. in blocks that N tells of. -/
def VsN (N : Nat → Prop) (w : World) (A : Option Addr) (xs : List Value) : Prop := xs = [] ∨ ∃ b o, A = some ⟨b, o, none⟩ ∧ N b ∧ b < w.heap.size ∧ ∀ j x, xs[j]? = some x → w.cell? ⟨b, o + j, none⟩ = some x
def EsN (N : Nat → Prop) (w : World) (v : Value) (l : List Ent) : Prop := ∃ A c, v = .slice A l.length c ∧ l.length ≤ c ∧ VsN N w A (flatE l)
def CsN (N : Nat → Prop) (w : World) (v : Value) (l : List Chg) : Prop := ∃ A c, v = .slice A l.length c ∧ l.length ≤ c ∧ VsN N w A (flatC l)
section
variable {N : Nat → Prop} {w w' : World} {A : Option Addr} {xs : List Value} {v : Value} {l : List Ent} {cs : List Chg}
theorem VsN.vs (h : VsN N w A xs) : Vs w A xs := by
  rcases h with h | ⟨b, o, h1, _, h2, h3⟩
  · exact .inl h
  · exact .inr ⟨b, o, h1, h2, h3⟩
theorem far_cell {S : Nat → Prop} (k : Far S w w') {p : Addr} (hp : p.block < w.heap.size) (hn : ¬ S p.block) : w'.cell? p = w.cell? p := by
  unfold World.cell?
  rw [k.block p.block hp hn]
theorem VsN.far {S : Nat → Prop} (h : VsN N w A xs) (k : Far S w w') (hS : ∀ b, N b → b < w.heap.size → ¬ S b) : VsN N w' A xs := by
  rcases h with h | ⟨b, o, h1, h2, h3, h4⟩
  · exact .inl h
  · exact .inr ⟨b, o, h1, h2, Nat.lt_of_lt_of_le h3 k.size, fun j x hx => (far_cell (p := ⟨b, _, none⟩) k h3 (hS b h2 h3)).trans (h4 j x hx)⟩
theorem VsN.mono {N' : Nat → Prop} (h : VsN N w A xs) (hN : ∀ b, N b → b < w.heap.size → N' b) : VsN N' w A xs := by
  rcases h with h | ⟨b, o, h1, h2, h3, h4⟩
  · exact .inl h
  · exact .inr ⟨b, o, h1, hN b h2 h3, h3, h4⟩
theorem VsN.of_own {base n k : Nat} {T : TypeId} (h : w.ownsRow base T k v n xs) (hx : xs.length = n * k) : ∃ A c, v = .slice A n c ∧ n ≤ c ∧ VsN (fun b => base ≤ b) w A xs := by
  rcases h.2 with ⟨rfl, h2⟩ | ⟨g, cap, cur, rfl, hb, hg, hle, hcap, hs, ht⟩
  · subst h2
    exact ⟨none, 0, rfl, Nat.le_refl _, .inl (by simpa using hx)⟩
  · refine ⟨_, cap, rfl, hle, .inr ⟨g, 0, rfl, hb, (Array.getElem?_eq_some_iff.1 hg).1, fun j x hj => ?_⟩⟩
    have hlt := (List.getElem?_eq_some_iff.1 hj).1
    rw [← ht, List.getElem?_take_of_lt (by omega)] at hj
    simp only [World.cell?, hg, Nat.zero_add]
    simpa using hj
theorem EsN.toEs (h : EsN N w v l) : Es w v l := by
  obtain ⟨A, c, h1, h2, h3⟩ := h
  exact ⟨A, c, h1, h2, h3.vs⟩
theorem CsN.toCs (h : CsN N w v cs) : Cs w v cs := by
  obtain ⟨A, c, h1, h2, h3⟩ := h
  exact ⟨A, c, h1, h2, h3.vs⟩
theorem EsN.far {S : Nat → Prop} (h : EsN N w v l) (k : Far S w w') (hS : ∀ b, N b → b < w.heap.size → ¬ S b) : EsN N w' v l := by
  obtain ⟨A, c, h1, h2, h3⟩ := h
  exact ⟨A, c, h1, h2, h3.far k hS⟩
theorem CsN.far {S : Nat → Prop} (h : CsN N w v cs) (k : Far S w w') (hS : ∀ b, N b → b < w.heap.size → ¬ S b) : CsN N w' v cs := by
  obtain ⟨A, c, h1, h2, h3⟩ := h
  exact ⟨A, c, h1, h2, h3.far k hS⟩
theorem EsN.mono {N' : Nat → Prop} (h : EsN N w v l) (hN : ∀ b, N b → b < w.heap.size → N' b) : EsN N' w v l := by
  obtain ⟨A, c, h1, h2, h3⟩ := h
  exact ⟨A, c, h1, h2, h3.mono hN⟩
theorem CsN.mono {N' : Nat → Prop} (h : CsN N w v cs) (hN : ∀ b, N b → b < w.heap.size → N' b) : CsN N' w v cs := by
  obtain ⟨A, c, h1, h2, h3⟩ := h
  exact ⟨A, c, h1, h2, h3.mono hN⟩
theorem EsN.below (h : EsN N w v l) (k : Below w.heap.size w w') : EsN N w' v l := h.far (far_of_below k) (fun _ _ _ h => h)
theorem CsN.below (h : CsN N w v cs) (k : Below w.heap.size w w') : CsN N w' v cs := h.far (far_of_below k) (fun _ _ _ h => h)
theorem EsN.nil (N : Nat → Prop) (w : World) : EsN N w (.slice none 0 0) [] := ⟨none, 0, rfl, Nat.le_refl _, .inl rfl⟩
theorem CsN.nil (N : Nat → Prop) (w : World) : CsN N w (.slice none 0 0) [] := ⟨none, 0, rfl, Nat.le_refl _, .inl rfl⟩
theorem EsN.of_own {base B : Nat} {T : TypeId} (h : w.ownsRow base T 2 v l.length (flatE l)) (hB : B ≤ base) : EsN (fun b => B ≤ b) w v l := by
  obtain ⟨A, c, h1, h2, h3⟩ := VsN.of_own h (flatE_length l)
  exact ⟨A, c, h1, h2, h3.mono (fun b h _ => Nat.le_trans hB h)⟩
theorem CsN.of_own {base B : Nat} {T : TypeId} (h : w.ownsRow base T 3 v cs.length (flatC cs)) (hB : B ≤ base) : CsN (fun b => B ≤ b) w v cs := by
  obtain ⟨A, c, h1, h2, h3⟩ := VsN.of_own h (flatC_length cs)
  exact ⟨A, c, h1, h2, h3.mono (fun b h _ => Nat.le_trans hB h)⟩
theorem Es.all (h : Es w v l) : EsN (fun _ => True) w v l := by
  obtain ⟨A, c, h1, h2, h3⟩ := h
  refine ⟨A, c, h1, h2, ?_⟩
  rcases h3 with h | ⟨b, o, h1, h2, h3⟩
  · exact .inl h
  · exact .inr ⟨b, o, h1, trivial, h2, h3⟩
theorem Cs.all (h : Cs w v cs) : CsN (fun _ => True) w v cs := by
  obtain ⟨A, c, h1, h2, h3⟩ := h
  refine ⟨A, c, h1, h2, ?_⟩
  rcases h3 with h | ⟨b, o, h1, h2, h3⟩
  · exact .inl h
  · exact .inr ⟨b, o, h1, trivial, h2, h3⟩
end
theorem toList_nil {k : ByteArray} : k.toList = [] ↔ k.size = 0 := by
  rw [Lib.toList_data]
  constructor
  · intro h
    show k.data.size = 0
    rw [← Array.length_toList, h]
    rfl
  · intro h
    exact List.length_eq_zero_iff.1 (by rw [Array.length_toList]; exact h)
theorem between_off {k : ByteArray} (n : Nat) (h : k.toList = []) : (decide (1 ≤ k.size) && decide (k.size ≤ n)) = false := by
  have := toList_nil.1 h
  simp [this]
theorem between_on {k : ByteArray} (n : Nat) (h : ¬ k.toList = []) : (decide (1 ≤ k.size) && decide (k.size ≤ n)) = (!k.toList.isEmpty && decide ((k.size : Int) ≤ (n : Int))) := by
  have h0 : ¬ k.size = 0 := fun e => h (toList_nil.2 e)
  have h1 : 1 ≤ k.size := by omega
  have h2 : k.toList.isEmpty = false := by cases hl : k.toList with | nil => exact absurd hl h | cons _ _ => rfl
  rw [h2]
  by_cases h3 : k.size ≤ n
  · simp [h1, h3, show (k.size : Int) ≤ (n : Int) by omega]
  · simp [h3, show ¬ (k.size : Int) ≤ (n : Int) by omega]
end Go.Proofs.YtlbebdkockejcaaGreatDoor
