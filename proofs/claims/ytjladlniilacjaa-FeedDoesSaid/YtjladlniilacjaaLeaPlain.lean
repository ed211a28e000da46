/-
  Package lease: plain data: sessions, slots, tables, and what the calls make of them.
-/
import Derived.Test.YtjladlniilacjaaGaFar
namespace Go.Proofs.Lea
set_option linter.unusedVariables false
structure Ses where
  id : Int
  block : Int
  dead : Int
  last : Int
deriving DecidableEq
def s0 : Ses := ⟨0, 0, 0, 0⟩
abbrev Ans := Int × ByteArray
structure Slo where
  s : Ses
  kept : List Ans
def o0 : Slo := ⟨s0, []⟩
/-- A table: four slots. -/
structure Tbl where
  most : Int
  term : Int
  slots : List Slo
  opened : Nat
  ended : List Int
def Tbl.sl (t : Tbl) (i : Nat) : Slo := t.slots.getD i o0
def Tbl.id (t : Tbl) (i : Nat) : Int := (t.sl i).s.id
def Tbl.set (t : Tbl) (i : Nat) (x : Slo) : Tbl := { t with slots := t.slots.set i x }
/-- The slots that are used, as they lie. -/
def Tbl.rawN (t : Tbl) (k : Nat) : List Nat := (List.range k).filter (fun i => decide (t.id i ≠ 0))
def Tbl.raw (t : Tbl) : List Nat := t.rawN 4
def insR (f : Nat → Int) (x : Nat) : List Nat → List Nat
  | [] => [x]
  | y :: r => if f x < f y then y :: insR f x r else x :: y :: r
/-- What a sort makes of a row, the greatest one first: each one is laid into those ahead of it. -/
def isortR (f : Nat → Int) : List Nat → List Nat → List Nat
  | acc, [] => acc
  | acc, x :: r => isortR f (insR f x acc) r
/-- The slots that are used, by their numbers. -/
def Tbl.used (t : Tbl) : List Nat := (isortR t.id [] t.raw).reverse
def Tbl.there (t : Tbl) (id : Int) : Option Nat := t.used.find? (fun i => decide (t.id i = id))
inductive Got where
  | ok (i : Nat)
  | err (e : Int)
deriving DecidableEq
def Tbl.find (t : Tbl) (id clock : Int) : Got :=
  match t.there id with
  | some i => if (t.sl i).s.dead ≤ clock ∨ id ∈ t.ended then .err 6 else .ok i
  | none => if id ∈ t.ended then .err 6 else .err 5
def Tbl.free (t : Tbl) : Option Nat := (List.range 4).find? (fun i => decide (t.id i = 0))
def Tbl.opens (t : Tbl) (block clock : Int) : Tbl × Int × Int :=
  if t.used.length = t.most.toNat ∨ t.opened = 1048576 then (t, 0, 12)
  else match t.free with
    | some i => ({ t with slots := t.slots.set i ⟨⟨(t.opened : Int) + 1, block, clock + t.term, 0⟩, []⟩, opened := t.opened + 1 }, (t.opened : Int) + 1, 0)
    | none => (t, 0, 12)
def Tbl.finds (t : Tbl) (id clock : Int) : Ses × Int :=
  match t.find id clock with
  | .ok i => ((t.sl i).s, 0)
  | .err e => (s0, e)
def Tbl.renew (t : Tbl) (id clock : Int) : Tbl × Int :=
  match t.find id clock with
  | .ok i => (t.set i ⟨{ (t.sl i).s with dead := clock + t.term }, (t.sl i).kept⟩, 0)
  | .err e => (t, e)
def Tbl.repin (t : Tbl) (id block clock : Int) : Tbl × Int × Int :=
  match t.find id clock with
  | .ok i => (t.set i ⟨{ (t.sl i).s with block := block }, (t.sl i).kept⟩, (t.sl i).s.block, 0)
  | .err e => (t, 0, e)
def Tbl.release (t : Tbl) (id clock : Int) : Tbl × Int × Int :=
  match t.find id clock with
  | .ok i => (t.set i o0, (t.sl i).s.block, 0)
  | .err e => (t, 0, e)
def Tbl.endOne (t : Tbl) (i : Nat) : Tbl := { t with slots := t.slots.set i o0, ended := t.ended ++ [t.id i] }
/-- All of some slots that end. -/
def Tbl.endAll (t : Tbl) (clock : Int) : List Nat → Tbl
  | [] => t
  | i :: r => if clock < (t.sl i).s.dead then t.endAll clock r else (t.endOne i).endAll clock r
def Tbl.over (t : Tbl) (clock : Int) : List Nat := t.used.filter (fun i => decide ((t.sl i).s.dead ≤ clock))
def lastN {α : Type} (n : Nat) (l : List α) : List α := l.drop (l.length - n)
def Tbl.expire (t : Tbl) (clock : Int) : Tbl × List Ses :=
  let u := t.endAll clock t.used
  ({ u with ended := lastN 8 u.ended }, (t.over clock).map (fun i => (t.sl i).s))
def Tbl.store (t : Tbl) (id seq : Int) (reply : ByteArray) : Tbl × Int :=
  match t.there id with
  | some i => if seq ≤ (t.sl i).s.last then (t, 1) else (t.set i ⟨{ (t.sl i).s with last := seq }, lastN 2 ((t.sl i).kept ++ [(seq, reply)])⟩, 0)
  | none => (t, 5)
def Tbl.replay (t : Tbl) (id seq : Int) : ByteArray × Int :=
  match t.there id with
  | some i => if (t.sl i).s.last < seq then (⟨#[]⟩, 9) else match (t.sl i).kept.find? (fun a => decide (a.1 = seq)) with
    | some a => (a.2, 0)
    | none => (⟨#[]⟩, 7)
  | none => (⟨#[]⟩, 5)
def Tbl.all (t : Tbl) : List Ses := t.used.map (fun i => (t.sl i).s)
def Tbl.kept (t : Tbl) : Nat := (t.sl 0).kept.length + (t.sl 1).kept.length + (t.sl 2).kept.length + (t.sl 3).kept.length
def news (most term : Int) : Tbl := ⟨min (max most 1) 4, min (max term 1) 1000, [o0, o0, o0, o0], 0, []⟩
structure Act where
  k : Int
  id : Int
  block : Int
  clock : Int
  seq : Int
  text : ByteArray
structure Told where
  e : Int
  n : Int
  text : ByteArray
  s : Ses
  all : List Ses
def Tbl.does (t : Tbl) (a : Act) : Tbl × Told :=
  if a.k = 0 then ((t.opens a.block a.clock).1, ⟨(t.opens a.block a.clock).2.2, (t.opens a.block a.clock).2.1, ⟨#[]⟩, s0, []⟩)
  else if a.k = 1 then (t, ⟨(t.finds a.id a.clock).2, 0, ⟨#[]⟩, (t.finds a.id a.clock).1, []⟩)
  else if a.k = 2 then ((t.renew a.id a.clock).1, ⟨(t.renew a.id a.clock).2, 0, ⟨#[]⟩, s0, []⟩)
  else if a.k = 3 then ((t.repin a.id a.block a.clock).1, ⟨(t.repin a.id a.block a.clock).2.2, (t.repin a.id a.block a.clock).2.1, ⟨#[]⟩, s0, []⟩)
  else if a.k = 4 then ((t.release a.id a.clock).1, ⟨(t.release a.id a.clock).2.2, (t.release a.id a.clock).2.1, ⟨#[]⟩, s0, []⟩)
  else if a.k = 5 then ((t.expire a.clock).1, ⟨0, 0, ⟨#[]⟩, s0, (t.expire a.clock).2⟩)
  else if a.k = 6 then ((t.store a.id a.seq a.text).1, ⟨(t.store a.id a.seq a.text).2, 0, ⟨#[]⟩, s0, []⟩)
  else (t, ⟨(t.replay a.id a.seq).2, 0, (t.replay a.id a.seq).1, s0, []⟩)
/-- What holds of a table. -/
structure Tbl.Ok (t : Tbl) : Prop where
  four : t.slots.length = 4
  most : 1 ≤ t.most ∧ t.most ≤ 4
  term : 1 ≤ t.term ∧ t.term ≤ 1000
  opened : t.opened ≤ 1048576
  ids : ∀ i, i < 4 → 0 ≤ t.id i ∧ t.id i ≤ t.opened
  apart : ∀ i j, i < 4 → j < 4 → t.id i = t.id j → t.id i ≠ 0 → i = j
  room : t.raw.length ≤ t.most.toNat
  bare : ∀ i, i < 4 → t.id i = 0 → t.sl i = o0
  kept : ∀ i, i < 4 → (t.sl i).kept.length ≤ 3
  gone : ∀ e ∈ t.ended, 0 < e ∧ e ≤ t.opened ∧ ∀ i, i < 4 → t.id i ≠ e
theorem insR_over (f : Nat → Int) (x : Nat) : ∀ (A B : List Nat), (∀ a ∈ A, f x < f a) → insR f x (A ++ B) = A ++ insR f x B
  | [], B, _ => rfl
  | a :: A, B, h => by
    show (if f x < f a then a :: insR f x (A ++ B) else x :: a :: (A ++ B)) = a :: (A ++ insR f x B)
    rw [if_pos (h a (List.mem_cons_self ..)), insR_over f x A B (fun b hb => h b (List.mem_cons_of_mem _ hb))]
theorem isortR_append (f : Nat → Int) : ∀ (l acc r : List Nat), isortR f acc (l ++ r) = isortR f (isortR f acc l) r
  | [], _, _ => rfl
  | x :: l, acc, r => isortR_append f l (insR f x acc) r
theorem insR_perm (f : Nat → Int) (x : Nat) : ∀ l : List Nat, (insR f x l).Perm (x :: l)
  | [] => .refl _
  | y :: r => by
    unfold insR
    split
    · exact ((insR_perm f x r).cons y).trans (.swap x y r)
    · exact .refl _
theorem isortR_perm (f : Nat → Int) : ∀ (l acc : List Nat), (isortR f acc l).Perm (acc ++ l)
  | [], acc => by rw [List.append_nil]; exact .refl _
  | x :: l, acc => by
    refine (isortR_perm f l (insR f x acc)).trans ?_
    refine ((insR_perm f x acc).append_right l).trans ?_
    exact List.perm_middle.symm
theorem insR_sorted (f : Nat → Int) (x : Nat) : ∀ l : List Nat, l.Pairwise (fun a b => f b ≤ f a) → (insR f x l).Pairwise (fun a b => f b ≤ f a)
  | [], _ => List.pairwise_singleton _ _
  | y :: r, h => by
    obtain ⟨h1, h2⟩ := List.pairwise_cons.1 h
    unfold insR
    split
    · next hlt =>
      refine List.pairwise_cons.2 ⟨fun b hb => ?_, insR_sorted f x r h2⟩
      rcases List.mem_cons.1 ((insR_perm f x r).mem_iff.1 hb) with rfl | hb
      · omega
      · exact h1 b hb
    · next hlt =>
      refine List.pairwise_cons.2 ⟨fun b hb => ?_, h⟩
      rcases List.mem_cons.1 hb with rfl | hb
      · omega
      · have := h1 b hb; omega
theorem isortR_sorted (f : Nat → Int) : ∀ (l acc : List Nat), acc.Pairwise (fun a b => f b ≤ f a) → (isortR f acc l).Pairwise (fun a b => f b ≤ f a)
  | [], acc, h => h
  | x :: l, acc, h => isortR_sorted f l _ (insR_sorted f x acc h)
theorem used_perm (t : Tbl) : t.used.Perm t.raw := (List.reverse_perm _).trans (isortR_perm t.id t.raw [])
theorem used_mem (t : Tbl) (i : Nat) : i ∈ t.used ↔ i < 4 ∧ t.id i ≠ 0 := by
  rw [(used_perm t).mem_iff]
  unfold Tbl.raw Tbl.rawN
  simp
theorem used_sorted (t : Tbl) : t.used.Pairwise (fun a b => t.id a ≤ t.id b) := by
  unfold Tbl.used
  rw [List.pairwise_reverse]
  exact isortR_sorted t.id t.raw [] List.Pairwise.nil
theorem raw_nodup (t : Tbl) : t.raw.Nodup := by
  unfold Tbl.raw Tbl.rawN
  exact List.nodup_range.sublist List.filter_sublist
theorem used_nodup (t : Tbl) : t.used.Nodup := (used_perm t).nodup_iff.2 (raw_nodup t)
theorem raw_le (t : Tbl) : t.raw.length ≤ 4 := by
  unfold Tbl.raw Tbl.rawN
  refine Nat.le_trans (List.length_filter_le _ _) (by simp)
theorem used_le (t : Tbl) : t.used.length ≤ 4 := by rw [(used_perm t).length_eq]; exact raw_le t
theorem rawN_succ (t : Tbl) (k : Nat) : t.rawN (k + 1) = if t.id k ≠ 0 then t.rawN k ++ [k] else t.rawN k := by
  unfold Tbl.rawN
  rw [List.range_succ, List.filter_append]
  by_cases h : t.id k = 0
  · rw [if_neg (fun e => e h)]; simp [h]
  · rw [if_pos h]; simp [h]
theorem rawN_le (t : Tbl) (k : Nat) : (t.rawN k).length ≤ k := by
  unfold Tbl.rawN
  refine Nat.le_trans (List.length_filter_le _ _) (by simp)
end Go.Proofs.Lea
