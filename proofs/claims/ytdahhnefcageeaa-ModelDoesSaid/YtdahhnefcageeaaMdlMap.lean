/-
  canon.Apply's map: from keys to their last changes.
-/
import Derived.Test.YtdahhnefcageeaaMdlDif
import Derived.Maps.Own
import Derived.Maps.OwnOps
import Derived.Maps.OwnSet
import Derived.Maps.Views
import Derived.Maps.RangeWalk
import Derived.StringKeys
namespace Go.Proofs.Ytdahhnefcageeaa
open Go.RowKit Go.Proofs.Mdl
open Go.Maps (Keyed)
set_option linter.unusedVariables false
set_option linter.unusedSimpArgs false
theorem strKeyed : Keyed Try.prog 9 := Go.Maps.string_keyed Try.underlying9
theorem undMap : Try.prog.underlying 90 = some (.map 9 67) := Try.underlying90
/-- A key, as it reads. -/
def kl (s : ByteArray) : Lit := .string s.data.toList
theorem kl_inj {s t : ByteArray} (h : kl s = kl t) : s = t := by
  have : s.data.toList = t.data.toList := by injection h
  exact ByteArray.ext (Array.toList_inj.1 this)
theorem kl_key (s : ByteArray) : WideAt.IsKeyLit (kl s) := trivial
theorem kl_same (s t : ByteArray) : (kl t).sameKey (kl s) = decide (t = s) := by
  by_cases e : t = s
  · subst e; rw [WideAt.sameKey_self (kl_key t)]; simp
  · rw [Maps.sameKey_ne (fun h => e (kl_inj h))]; simp [e]
def chVal (c : Chg) : Value := .agg #[.string c.k, .string c.v, .bool c.gone]
def chElem (v : Value) : Option (DataW Chg × List MemPlace) :=
  match v with
  | .agg cs => match cs.toList with
    | [.string k, .string v, .bool g] => some (.held ⟨k, v, g⟩, [])
    | _ => none
  | _ => none
theorem chElem_val (c : Chg) : chElem (chVal c) = some (.held c, []) := rfl
theorem chElem_inv {v : Value} {y : DataW Chg × List MemPlace} (h : chElem v = some y) : ∃ c, v = chVal c ∧ y = (.held c, []) := by
  unfold chElem at h
  split at h
  · next cs =>
    split at h
    · next k v g e =>
      cases h
      refine ⟨⟨k, v, g⟩, ?_, rfl⟩
      unfold chVal
      rw [← e]
    · cases h
  · cases h
theorem key_inv {key : Value} {l : Lit} (h : keyOf Try.prog 9 key = some l) : ∃ x : ByteArray, key = .string x := by
  simp only [keyOf, Try.underlying9] at h
  cases key <;> simp [mapKey, Try.underlying9] at h
  exact ⟨_, rfl⟩
theorem key_inv2 {x : ByteArray} {l : Lit} (h : keyOf Try.prog 9 (.string x) = some l) : x.size ≤ maxLen ∧ l = kl x := by
  simp only [keyOf, Try.underlying9] at h
  simp [mapKey, Try.underlying9] at h
  exact ⟨h.1, h.2.symm⟩
theorem zeroChg (w : World) : (zeroValue 67).run Try.prog w = .ok (chVal ⟨⟨#[]⟩, ⟨#[]⟩, false⟩) w := by kernel_rfl
/-- Block m is a map of what f tells. -/
def Mc (w : World) (m : Nat) (f : ByteArray → Option Chg) (n : Nat) : Prop :=
  ∃ D : DataW Chg, w.ownsMap Try.prog 9 chElem m n D ∧ (∀ s, Maps.has D (kl s) = (f s).isSome) ∧ ∀ s c, f s = some c → s.size ≤ maxLen ∧ ∀ z, D.atKey (kl s) z = .held c
section
variable {w w' : World} {m n : Nat} {f : ByteArray → Option Chg}
theorem Mc.lt (h : Mc w m f n) : m < w.heap.size := by
  obtain ⟨D, h, _⟩ := h
  exact h.lt
theorem Mc.far {S : Nat → Prop} (h : Mc w m f n) (k : Far S w w') (hm : ¬ S m) : Mc w' m f n := by
  obtain ⟨D, ⟨es, clock, hb, F, hs, hD⟩, r⟩ := h
  exact ⟨D, ⟨es, clock, (k.block m (Array.getElem?_eq_some_iff.1 hb).1 hm).trans hb, F, hs, hD⟩, r⟩
theorem Mc.below (h : Mc w m f n) (k : Below w.heap.size w w') : Mc w' m f n := h.far (far_of_below k) (fun h => h)
theorem Mc.new (w : World) : Mc (w.alloc (.map #[] 0)) w.heap.size (fun _ => none) 0 :=
  ⟨_, World.ownsMap_made w _ _ _, fun s => rfl, fun s c h => by cases h⟩
theorem Mc.look (h : Mc w m f n) (s : ByteArray) (hs : s.size ≤ maxLen) :
    ∃ c, (Instr.lookup 90 (.map (some m)) (.string s) true).run Try.prog w = .ok (.tuple #[chVal c, .bool (f s).isSome]) w := by
  obtain ⟨D, h, hh, ha⟩ := h
  obtain ⟨v, ps, hrun, hv⟩ := h.look_ok strKeyed undMap (zeroChg w) (chElem_val _) (Go.WideMaps.keyOf_string_mk Try.underlying9 hs)
  obtain ⟨c, rfl, _⟩ := chElem_inv hv
  exact ⟨c, by rw [hrun, show Maps.has D (Lit.string s.data.toList) = _ from hh s]⟩
theorem Mc.put (h : Mc w m f n) (c : Chg) (hs : c.k.size ≤ maxLen) (hl : n < maxLen) :
    ∃ w', (Instr.mapUpdate 90 (.map (some m)) (.string c.k) (chVal c)).run Try.prog w = .ok () w' ∧ Mc w' m (fun s => if c.k = s then some c else f s) (n + 1) ∧ w.grownBy w' (some m) := by
  obtain ⟨D, h, hh, ha⟩ := h
  obtain ⟨w', hrun, hown, hg⟩ := h.update (val := chVal c) strKeyed undMap hl (Go.WideMaps.keyOf_string_mk Try.underlying9 hs) (chElem_val c)
  refine ⟨w', hrun, ⟨_, hown, ?_, ?_⟩, hg⟩
  · intro t
    by_cases e : c.k = t
    · subst e
      show _ = (if c.k = c.k then some c else f c.k).isSome
      rw [if_pos rfl]
      exact Maps.has_put_same h.isMap (kl_key c.k) _
    · show _ = (if c.k = t then some c else f t).isSome
      rw [if_neg e, ← hh]
      exact Maps.has_put_other (fun h => e (kl_inj h).symm) _
  · intro t d hd
    replace hd : (if c.k = t then some c else f t) = some d := hd
    by_cases e : c.k = t
    · subst e
      rw [if_pos rfl] at hd
      cases hd
      exact ⟨hs, fun z => Maps.atKey_put_same h.isMap (kl_key c.k) _ _⟩
    · rw [if_neg e] at hd
      obtain ⟨h1, h2⟩ := ha t d hd
      refine ⟨h1, fun z => ?_⟩
      rw [← h2 z]
      exact Maps.atKey_put_other (fun h => e (kl_inj h).symm) _ _
end
end Go.Proofs.Ytdahhnefcageeaa
