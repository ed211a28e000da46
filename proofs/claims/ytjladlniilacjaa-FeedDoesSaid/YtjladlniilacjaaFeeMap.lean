/-
  Package feed: the map from sessions to rows, as a row of keys and blocks.
-/
import Derived.Test.YtjladlniilacjaaGaFar
import Derived.Maps.Own
import Derived.Maps.OwnOps
import Derived.Maps.OwnSet
import Derived.Maps.Views
import Derived.Lib.SlKeysI
namespace Go.Proofs.Fee
/-- Keys, and what they lead to. -/
abbrev Keyz (α : Type) := List (Int × α)
variable {α : Type}
def atK (ks : Keyz α) (s : Int) : Option α := (ks.find? (fun p => p.1 = s)).map Prod.snd
def hasK (ks : Keyz α) (s : Int) : Bool := ks.any (fun p => p.1 = s)
/-- With a thing in its place; keys rise. -/
def putK : Keyz α → Int → α → Keyz α
  | [], s, x => [(s, x)]
  | p :: r, s, x => if p.1 < s then p :: putK r s x else if p.1 = s then (s, x) :: r else (s, x) :: p :: r
def delK (ks : Keyz α) (s : Int) : Keyz α := ks.filter (fun p => ¬ p.1 = s)
def Up (ks : Keyz α) : Prop := ks.Pairwise (fun p q => p.1 < q.1)
theorem Up.nodup {ks : Keyz α} (h : Up ks) : (ks.map Prod.fst).Nodup := by
  unfold List.Nodup
  rw [List.pairwise_map]
  exact h.imp (fun h => Int.ne_of_lt h)
theorem hasK_iff {ks : Keyz α} {s : Int} : hasK ks s = true ↔ ∃ x, (s, x) ∈ ks := by
  unfold hasK
  rw [List.any_eq_true]
  constructor
  · rintro ⟨⟨a, c⟩, h, e⟩
    simp at e
    subst e
    exact ⟨c, h⟩
  · rintro ⟨c, h⟩
    exact ⟨_, h, by simp⟩
theorem hasK_key {ks : Keyz α} {s : Int} : hasK ks s = true ↔ s ∈ ks.map Prod.fst := by
  rw [hasK_iff, List.mem_map]
  exact ⟨fun ⟨c, h⟩ => ⟨_, h, rfl⟩, fun ⟨p, h, e⟩ => ⟨p.2, by rw [← e]; exact h⟩⟩
theorem atK_mem {ks : Keyz α} (hn : (ks.map Prod.fst).Nodup) {s : Int} {x : α} (h : (s, x) ∈ ks) : atK ks s = some x := by
  unfold atK
  induction ks with
  | nil => cases h
  | cons p t ih =>
    rw [List.map_cons, List.nodup_cons] at hn
    rw [List.find?_cons]
    by_cases e : p.1 = s
    · rcases List.mem_cons.1 h with h | h
      · subst h; simp
      · exact absurd (List.mem_map.2 ⟨(s, x), h, e.symm⟩) hn.1
    · rcases List.mem_cons.1 h with h | h
      · subst h; exact absurd rfl e
      · simp only [e, decide_false]
        exact ih hn.2 h
theorem atK_none {ks : Keyz α} {s : Int} (h : hasK ks s = false) : atK ks s = none := by
  unfold atK
  rw [List.find?_eq_none.2]
  · rfl
  · intro p hp e
    have : hasK ks s = true := by unfold hasK; rw [List.any_eq_true]; exact ⟨p, hp, e⟩
    rw [h] at this
    cases this
theorem atK_some {ks : Keyz α} {s : Int} {x : α} (h : atK ks s = some x) : (s, x) ∈ ks := by
  unfold atK at h
  obtain ⟨p, hp, rfl⟩ := Option.map_eq_some_iff.1 h
  have h1 := List.find?_some hp
  simp at h1
  rw [← h1]
  exact List.mem_of_find?_eq_some hp
theorem atK_has {ks : Keyz α} {s : Int} : (atK ks s).isSome = hasK ks s := by
  cases h : hasK ks s with
  | false => rw [atK_none h]; rfl
  | true =>
    unfold atK hasK at *
    rw [Option.isSome_map, List.find?_isSome]
    rw [List.any_eq_true] at h
    exact h
theorem putK_mem {ks : Keyz α} (h : Up ks) {s : Int} {x : α} {p : Int × α} : p ∈ putK ks s x ↔ p = (s, x) ∨ (p ∈ ks ∧ p.1 ≠ s) := by
  induction ks with
  | nil => simp [putK]
  | cons q r ih =>
    obtain ⟨h1, h2⟩ := List.pairwise_cons.1 h
    unfold putK
    split
    · next hlt =>
      rw [List.mem_cons, ih h2, List.mem_cons]
      constructor
      · rintro (rfl | h | ⟨h, h3⟩)
        · exact .inr ⟨.inl rfl, by omega⟩
        · exact .inl h
        · exact .inr ⟨.inr h, h3⟩
      · rintro (h | ⟨rfl | h, h3⟩)
        · exact .inr (.inl h)
        · exact .inl rfl
        · exact .inr (.inr ⟨h, h3⟩)
    · split
      · next hlt he =>
        rw [List.mem_cons, List.mem_cons]
        constructor
        · rintro (h | h)
          · exact .inl h
          · exact .inr ⟨.inr h, by have := h1 p h; omega⟩
        · rintro (h | ⟨rfl | h, h3⟩)
          · exact .inl h
          · exact absurd he h3
          · exact .inr h
      · next hlt hne =>
        rw [List.mem_cons]
        constructor
        · rintro (h | h)
          · exact .inl h
          · refine .inr ⟨h, ?_⟩
            rcases List.mem_cons.1 h with rfl | h
            · exact hne
            · have := h1 p h; omega
        · rintro (h | ⟨h, h3⟩)
          · exact .inl h
          · exact .inr h
theorem putK_up {ks : Keyz α} (h : Up ks) (s : Int) (x : α) : Up (putK ks s x) := by
  induction ks with
  | nil => exact List.pairwise_singleton _ _
  | cons q r ih =>
    obtain ⟨h1, h2⟩ := List.pairwise_cons.1 h
    unfold putK
    split
    · next hlt =>
      refine List.pairwise_cons.2 ⟨fun b hb => ?_, ih h2⟩
      rcases (putK_mem h2).1 hb with rfl | ⟨hb, _⟩
      · exact hlt
      · exact h1 b hb
    · split
      · next hlt he =>
        exact List.pairwise_cons.2 ⟨fun b hb => by have := h1 b hb; show s < b.1; omega, h2⟩
      · next hlt hne =>
        refine List.pairwise_cons.2 ⟨fun b hb => ?_, h⟩
        show s < b.1
        rcases List.mem_cons.1 hb with rfl | hb
        · omega
        · have := h1 b hb; omega
theorem delK_mem {ks : Keyz α} {s : Int} {p : Int × α} : p ∈ delK ks s ↔ p ∈ ks ∧ p.1 ≠ s := by
  unfold delK
  rw [List.mem_filter]
  simp
theorem delK_up {ks : Keyz α} (h : Up ks) (s : Int) : Up (delK ks s) := h.sublist List.filter_sublist
theorem hasK_put {ks : Keyz α} (h : Up ks) {s t : Int} {x : α} : hasK (putK ks s x) t = (decide (s = t) || hasK ks t) := by
  rw [Bool.eq_iff_iff, hasK_iff, Bool.or_eq_true, decide_eq_true_iff, hasK_iff]
  constructor
  · rintro ⟨y, hy⟩
    rcases (putK_mem h).1 hy with e | ⟨h1, _⟩
    · exact .inl (by cases e; rfl)
    · exact .inr ⟨y, h1⟩
  · rintro (rfl | ⟨y, hy⟩)
    · exact ⟨x, (putK_mem h).2 (.inl rfl)⟩
    · by_cases e : t = s
      · exact ⟨x, (putK_mem h).2 (.inl (by rw [e]))⟩
      · exact ⟨y, (putK_mem h).2 (.inr ⟨hy, e⟩)⟩
theorem hasK_del {ks : Keyz α} {s t : Int} : hasK (delK ks s) t = (!decide (s = t) && hasK ks t) := by
  rw [Bool.eq_iff_iff, hasK_iff, Bool.and_eq_true, Bool.not_eq_true', decide_eq_false_iff_not, hasK_iff]
  constructor
  · rintro ⟨y, hy⟩
    obtain ⟨h1, h2⟩ := delK_mem.1 hy
    exact ⟨fun e => h2 e.symm, y, h1⟩
  · rintro ⟨h1, y, hy⟩
    exact ⟨y, delK_mem.2 ⟨hy, fun e => h1 e.symm⟩⟩
theorem putK_length {ks : Keyz α} (h : Up ks) (s : Int) (x : α) : (putK ks s x).length = if hasK ks s then ks.length else ks.length + 1 := by
  induction ks with
  | nil => rfl
  | cons q r ih =>
    obtain ⟨h1, h2⟩ := List.pairwise_cons.1 h
    unfold putK
    by_cases hlt : q.1 < s
    · rw [if_pos hlt, List.length_cons, ih h2]
      have e : hasK (q :: r) s = hasK r s := by unfold hasK; rw [List.any_cons]; simp [Int.ne_of_lt hlt]
      rw [e]
      split <;> simp
    · rw [if_neg hlt]
      by_cases he : q.1 = s
      · rw [if_pos he]
        have e : hasK (q :: r) s = true := by unfold hasK; rw [List.any_cons]; simp [he]
        rw [e]
        simp
      · rw [if_neg he]
        have e : hasK (q :: r) s = false := by
          rw [Bool.eq_false_iff]
          intro h3
          obtain ⟨y, hy⟩ := hasK_iff.1 h3
          rcases List.mem_cons.1 hy with rfl | hy
          · exact he rfl
          · have := h1 _ hy; simp at this; omega
        rw [e]
        simp
theorem delK_length {ks : Keyz α} (h : Up ks) (s : Int) : (delK ks s).length + (if hasK ks s then 1 else 0) = ks.length := by
  induction ks with
  | nil => rfl
  | cons q r ih =>
    obtain ⟨h1, h2⟩ := List.pairwise_cons.1 h
    have := ih h2
    by_cases he : q.1 = s
    · have e : hasK (q :: r) s = true := by unfold hasK; rw [List.any_cons]; simp [he]
      have e2 : hasK r s = false := by
        rw [Bool.eq_false_iff]
        intro h3
        obtain ⟨y, hy⟩ := hasK_iff.1 h3
        have := h1 _ hy; simp at this; omega
      rw [e]
      rw [e2] at this
      unfold delK at this ⊢
      rw [List.filter_cons_of_neg (by simp [he])]
      simp at this ⊢
      omega
    · have e : hasK (q :: r) s = hasK r s := by unfold hasK; rw [List.any_cons]; simp [he]
      rw [e]
      unfold delK at this ⊢
      rw [List.filter_cons_of_pos (by simp [he])]
      simp at this ⊢
      omega
theorem atK_put {ks : Keyz α} (h : Up ks) (s t : Int) (x : α) : atK (putK ks s x) t = if t = s then some x else atK ks t := by
  by_cases e : t = s
  · rw [if_pos e, e]
    exact atK_mem (putK_up h s x).nodup ((putK_mem h).2 (.inl rfl))
  · rw [if_neg e]
    cases h2 : atK ks t with
    | some y => exact atK_mem (putK_up h s x).nodup ((putK_mem h).2 (.inr ⟨atK_some h2, e⟩))
    | none =>
      refine atK_none ?_
      rw [hasK_put h, decide_eq_false (fun e2 => e e2.symm), Bool.false_or, ← atK_has, h2]; rfl
theorem atK_del {ks : Keyz α} (h : Up ks) (s t : Int) : atK (delK ks s) t = if t = s then none else atK ks t := by
  by_cases e : t = s
  · rw [if_pos e, e]
    refine atK_none ?_
    rw [hasK_del]; simp
  · rw [if_neg e]
    cases h2 : atK ks t with
    | some y => exact atK_mem (delK_up h s).nodup (delK_mem.2 ⟨atK_some h2, e⟩)
    | none =>
      refine atK_none ?_
      rw [hasK_del, ← atK_has, h2]; simp
end Go.Proofs.Fee
namespace Go.Proofs.Ytjladlniilacjaa
open Go.RowKit Go.Proofs.Fee
open Go.Maps (Keyed)
set_option linter.unusedVariables false
set_option linter.unusedSimpArgs false
/-- How a pointer to a block of one's own reads. -/
def ptrElem (v : Value) : Option (DataW Unit × List MemPlace) :=
  match v with
  | .pointer none => some (.lit (.int .i64 (-1)), [])
  | .pointer (some ⟨b, 0, none⟩) => some (.lit (.int .i64 (b : Int)), [])
  | _ => none
theorem ptrElem_inv {v : Value} {b : Nat} {ps : List MemPlace} (h : ptrElem v = some (.lit (.int .i64 (b : Int)), ps)) : v = .pointer (some ⟨b, 0, none⟩) := by
  unfold ptrElem at h
  split at h
  · simp at h
  · simp at h
    obtain ⟨h, _⟩ := h
    have : ∀ x y : Nat, (x : Int) = (y : Int) → x = y := fun x y e => by omega
    rw [this _ _ h]
  · cases h
theorem ptrElem_none {v : Value} {ps : List MemPlace} (h : ptrElem v = some (.lit (.int .i64 (-1)), ps)) : v = .pointer none := by
  unfold ptrElem at h
  split at h
  · rfl
  · simp at h
  · cases h
/-- A key, as it reads. -/
def kz (s : Int) : Lit := .int .i64 s
theorem kz_inj {s t : Int} (h : kz s = kz t) : s = t := by injection h
theorem kz_key (s : Int) : WideAt.IsKeyLit (kz s) := trivial
abbrev wfI (s : Int) : Prop := (Lit.int .i64 s).wf = true
def ptrV : Option Nat → Value
  | some b => .pointer (some ⟨b, 0, none⟩)
  | none => .pointer none
theorem feeKeyed : Keyed Try.prog 3 := Go.Maps.int_keyed Try.underlying3
theorem zeroRowP (w : World) : (zeroValue 128).run Try.prog w = .ok (.pointer none) w := by kernel_rfl
theorem undRows : Try.prog.underlying 112 = some (.map 3 128) := Try.underlying112
/-- Block m is a map of these keys to these blocks. -/
def Mk (w : World) (m : Nat) (ks : Keyz Nat) : Prop :=
  ∃ D : DataW Unit, w.ownsMap Try.prog 3 ptrElem m ks.length D ∧ (∀ p ∈ ks, wfI p.1) ∧ Up ks ∧
    (∀ s, Maps.has D (kz s) = hasK ks s) ∧ (∀ p ∈ ks, ∀ z, D.atKey (kz p.1) z = .lit (.int .i64 (p.2 : Int))) ∧ Maps.size D = ks.length
theorem ownK_tight {w : World} {m n : Nat} {D : DataW Unit} (h : w.ownsMap Try.prog 3 ptrElem m n D) : w.ownsMap Try.prog 3 ptrElem m (Maps.size D) D := by
  obtain ⟨es, clock, hb, F, hs, rfl⟩ := h
  refine ⟨es, clock, hb, F, ?_, rfl⟩
  rw [Maps.size_eq, length_sorted]
  simp
section
variable {w w' : World} {m : Nat} {ks : Keyz Nat}
theorem Mk.lt (h : Mk w m ks) : m < w.heap.size := by
  obtain ⟨D, h, _⟩ := h
  exact h.lt
theorem Mk.up (h : Mk w m ks) : Up ks := by
  obtain ⟨D, _, _, h, _⟩ := h
  exact h
theorem Mk.wf (h : Mk w m ks) : ∀ p ∈ ks, wfI p.1 := by
  obtain ⟨D, _, h, _⟩ := h
  exact h
theorem Mk.far {S : Nat → Prop} (h : Mk w m ks) (k : Far S w w') (hm : ¬ S m) : Mk w' m ks := by
  obtain ⟨D, ⟨es, clock, hb, F, hs, hD⟩, r⟩ := h
  exact ⟨D, ⟨es, clock, (k.block m (Array.getElem?_eq_some_iff.1 hb).1 hm).trans hb, F, hs, hD⟩, r⟩
theorem Mk.same (h : Mk w m ks) (k : w'.heap[m]? = w.heap[m]?) : Mk w' m ks := by
  obtain ⟨D, ⟨es, clock, hb, F, hs, hD⟩, r⟩ := h
  exact ⟨D, ⟨es, clock, k.trans hb, F, hs, hD⟩, r⟩
theorem Mk.obj (h : Mk w m ks) : ∃ es clock, w.heap[m]? = some (.map es clock) := by
  obtain ⟨D, ⟨es, clock, hb, F, hs, hD⟩, r⟩ := h
  exact ⟨es, clock, hb⟩
theorem Mk.below (h : Mk w m ks) (k : Below w.heap.size w w') : Mk w' m ks :=
  h.far (S := fun _ => False) ⟨k.os, k.tape, k.output, k.size, fun i hi _ => k.block i hi⟩ (fun h => h)
theorem Mk.new (w : World) : Mk (w.alloc (.map #[] 0)) w.heap.size [] :=
  ⟨_, World.ownsMap_made w _ _ _, by simp, List.Pairwise.nil, fun s => rfl, by simp, rfl⟩
theorem Mk.look (h : Mk w m ks) (s : Int) (hs : wfI s) :
    (Instr.lookup 112 (.map (some m)) (.int .i64 s) false).run Try.prog w = .ok (ptrV (atK ks s)) w := by
  obtain ⟨D, h, _, hn, hh, ha, _⟩ := h
  obtain ⟨c, ps, hrun, hat⟩ := h.lookup feeKeyed undRows (zeroRowP w) (zd := .lit (.int .i64 (-1))) (zp := []) rfl (Go.Maps.keyOf_int_mk Try.underlying3 hs)
  rw [hrun]
  have hat' : ptrElem c = some (D.atKey (kz s) (.lit (.int .i64 (-1))), ps) := hat
  cases hc : hasK ks s with
  | false =>
    rw [Maps.atKey_of_not_has (by rw [hh, hc])] at hat'
    rw [atK_none hc, ptrElem_none hat']
    rfl
  | true =>
    obtain ⟨b, hm⟩ := hasK_iff.1 hc
    rw [ha _ hm] at hat'
    rw [atK_mem hn.nodup hm, ptrElem_inv hat']
    rfl
theorem Mk.put (h : Mk w m ks) (s : Int) (hs : wfI s) (b : Nat) (hl : ks.length < maxLen) :
    ∃ w', (Instr.mapUpdate 112 (.map (some m)) (.int .i64 s) (.pointer (some ⟨b, 0, none⟩))).run Try.prog w = .ok () w' ∧ Mk w' m (putK ks s b) ∧ w.grownBy w' (some m) := by
  obtain ⟨D, h, hb, hn, hh, ha, hz⟩ := h
  obtain ⟨w', hrun, hown, hg⟩ := h.update (val := .pointer (some ⟨b, 0, none⟩)) (d := .lit (.int .i64 (b : Int))) (ps := []) feeKeyed undRows hl (Go.Maps.keyOf_int_mk Try.underlying3 hs) rfl
  have ht := h.tidy feeKeyed
  have hput : Maps.size (D.put (kz s) (.lit (.int .i64 (b : Int)))) = (putK ks s b).length := by
    rw [Maps.size_put ht, hh, hz, putK_length hn]
  have hown' := ownK_tight hown
  refine ⟨w', hrun, ⟨_, by rw [← hput]; exact hown', ?_, putK_up hn s b, ?_, ?_, hput⟩, hg⟩
  · intro p hp
    rcases (putK_mem hn).1 hp with rfl | ⟨h1, _⟩
    · exact hs
    · exact hb p h1
  · intro t
    rw [hasK_put hn]
    by_cases e : s = t
    · subst e
      rw [show Maps.has (D.put (kz s) _) (kz s) = true from Maps.has_put_same h.isMap (kz_key s) _]
      simp
    · rw [show Maps.has (D.put (kz s) _) (kz t) = Maps.has D (kz t) from Maps.has_put_other (fun h => e (kz_inj h).symm) _, hh]
      simp [e]
  · intro p hp z
    rcases (putK_mem hn).1 hp with rfl | ⟨h1, h2⟩
    · exact Maps.atKey_put_same h.isMap (kz_key s) _ _
    · rw [show (D.put (kz s) _).atKey (kz p.1) z = D.atKey (kz p.1) z from Maps.atKey_put_other (fun h => h2 (kz_inj h)) _ _]
      exact ha p h1 z
theorem Mk.del (h : Mk w m ks) (s : Int) (hs : wfI s) (ty : TypeId) :
    ∃ w', (Builtin.delete_ #[112, 3] ty #[.map (some m), .int .i64 s]).run Try.prog w = .ok (.tuple #[]) w' ∧ Mk w' m (delK ks s) ∧ w.grownBy w' (some m) := by
  obtain ⟨D, h, hb, hn, hh, ha, hz⟩ := h
  obtain ⟨w', hrun, hown, hg⟩ := h.drop feeKeyed undRows (Go.Maps.keyOf_int_mk Try.underlying3 hs) ty
  have ht := h.tidy feeKeyed
  have hdel : Maps.size (D.del (kz s)) = (delK ks s).length := by
    have h1 := Maps.size_del (k := kz s) ht
    have h2 := delK_length hn s
    rw [hh, hz] at h1
    omega
  have hown' := ownK_tight hown
  refine ⟨w', hrun, ⟨_, by rw [← hdel]; exact hown', ?_, delK_up hn s, ?_, ?_, hdel⟩, hg.grown⟩
  · intro p hp
    exact hb p (delK_mem.1 hp).1
  · intro t
    rw [hasK_del]
    by_cases e : s = t
    · subst e
      rw [show Maps.has (D.del (kz s)) (kz s) = false from Maps.has_del_same]
      simp
    · rw [show Maps.has (D.del (kz s)) (kz t) = Maps.has D (kz t) from Maps.has_del_other (fun h => e (kz_inj h).symm), hh]
      simp [e]
  · intro p hp z
    obtain ⟨h1, h2⟩ := delK_mem.1 hp
    rw [show (D.del (kz s)).atKey (kz p.1) z = D.atKey (kz p.1) z from Maps.atKey_del_other (fun h => h2 (kz_inj h)) _]
    exact ha p h1 z
/-- The keys, sorted. -/
theorem Mk.sorted (h : Mk w m ks) : ∃ D : DataW Unit, w.ownsMap Try.prog 3 ptrElem m ks.length D ∧ Maps.size D = ks.length ∧ ∀ ss : List Int, ss.Perm (intKeys D) → ss.mergeSort (fun x y => decide (x ≤ y)) = ks.map Prod.fst := by
  obtain ⟨D, h, hb, hn, hh, ha, hz⟩ := h
  refine ⟨D, h, hz, fun ss hss => ?_⟩
  have hp : (ks.map Prod.fst).Perm (intKeys D) := by
    obtain ⟨es, hD, hpw, _⟩ := h.entries feeKeyed
    obtain ⟨es', hD', hko⟩ := h.keysOf
    obtain rfl : es = es' := by rw [hD] at hD'; simpa using hD'
    subst hD
    refine perm_intKeys hpw ?_ hn.nodup ?_
    · intro p hp
      obtain ⟨v, hv⟩ := hko p hp
      obtain ⟨x, _, e, _⟩ := Maps.keyOf_i64 Try.underlying3 hv
      exact ⟨x, e⟩
    · intro x
      rw [← hasK_key, ← hh]; rfl
  have tr : ∀ a b c : Int, decide (a ≤ b) = true → decide (b ≤ c) = true → decide (a ≤ c) = true := fun a b c h1 h2 => by simp only [decide_eq_true_eq] at *; exact Int.le_trans h1 h2
  have to : ∀ a b : Int, (decide (a ≤ b) || decide (b ≤ a)) = true := fun a b => by simp only [Bool.or_eq_true, decide_eq_true_eq]; exact Int.le_total a b
  refine List.Perm.eq_of_pairwise (le := fun a b => decide (a ≤ b) = true) (fun a b _ _ h1 h2 => ?_) (List.pairwise_mergeSort tr to ss) ?_ (((List.mergeSort_perm ss _).trans hss).trans hp.symm)
  · simp only [decide_eq_true_eq] at h1 h2
    exact Int.le_antisymm h1 h2
  · rw [List.pairwise_map]
    exact List.Pairwise.imp (fun h => by simp only [decide_eq_true_eq]; exact Int.le_of_lt h) hn
end
end Go.Proofs.Ytjladlniilacjaa
