/-
  Merged: NodePlain.
-/
import Derived.Test.YtlbebdkockejcaaGreatDoorGaItems
import Derived.Test.YtlbebdkockejcaaGreatDoorGaNib
namespace Go.Proofs.Nod
open Go.Proofs.Nib (bs)
/-- A node. -/
structure Nd where
  kind : Int
  path : ByteArray
  value : ByteArray
  refs : List ByteArray
deriving DecidableEq
def e0 : ByteArray := ⟨#[]⟩
def zeroN : Nd := ⟨0, e0, e0, List.replicate 16 e0⟩
def textB (b : ByteArray) : ByteArray := bs (Rlp.text b.data.toList)
def listB (l : List ByteArray) : ByteArray := bs (Rlp.list (l.map (·.data.toList)))
/-- The first item, if there is one: whether it is a list, and what is in it. -/
def splitB (s : ByteArray) : Option (Bool × ByteArray) := match Rlp.first s.data.toList with
  | .error _ => none
  | .ok (l, f, n) => some (l, s.extract f (f + n))
def readText (item : ByteArray) : Option ByteArray := match splitB item with
  | some (false, b) => some b
  | _ => none
/-- What a ref is of, if it is of a hash. -/
def hashB (ref : ByteArray) : Option ByteArray := if ref.size = 33 ∧ textB (ref.extract 1 33) = ref then some (ref.extract 1 33) else none
/-- The node in a ref, by what Get tells. -/
def inlineK (g : ByteArray → Option Nd) (ref : ByteArray) : Option Nd := if 32 ≤ ref.size then none else match g ref with
  | some n => if n.kind = 0 then none else some n
  | none => none
/-- Whether a ref may be, and the kind of the node in it. -/
def refersK (g : ByteArray → Option Nd) (ref : ByteArray) : Option Int := if (hashB ref).isSome then some 0 else (inlineK g ref).map (·.kind)
def pathOk (p : ByteArray) : Bool := decide (p.size ≤ 12) && Nib.valid p.data.toList
def validK (g : ByteArray → Option Nd) (n : Nd) : Bool :=
  if n.kind = 0 then decide (n = zeroN)
  else if n.kind = 1 then decide (n.refs = List.replicate 16 e0) && pathOk n.path && decide (n.value ≠ e0) && decide (n.value.size ≤ 80)
  else if n.kind = 2 then decide (n.value = e0) && decide (n.refs.drop 1 = List.replicate 15 e0) && decide (n.path ≠ e0) && pathOk n.path &&
    (match refersK g (n.refs.headD e0) with | some k => decide (k = 0) || decide (k = 3) | none => false)
  else if n.kind = 3 then decide (n.path = e0) && decide (n.value.size ≤ 80) && n.refs.all (fun r => decide (r = e0) || (refersK g r).isSome) &&
    decide (2 ≤ min n.value.size 1 + (n.refs.filter (fun r => decide (r ≠ e0))).length)
  else false
def pathB (p : ByteArray) (leaf : Bool) : ByteArray := textB (bs (Nib.put p.data.toList leaf))
def bytesB (n : Nd) : ByteArray :=
  if n.kind = 1 then listB [pathB n.path true, textB n.value]
  else if n.kind = 2 then listB [pathB n.path false, n.refs.headD e0]
  else if n.kind = 3 then listB (n.refs.map (fun r => if r = e0 then textB e0 else r) ++ [textB n.value])
  else textB e0
/-- What stands in a list's bytes. -/
def readItems (l : List ByteArray) : Option Nd :=
  match l with
  | [p, x] =>
    match readText p with
    | none => none
    | some f => match Nib.get f.data.toList with
      | none => none
      | some (q, true) => (readText x).map (fun v => ⟨1, bs q, v, List.replicate 16 e0⟩)
      | some (q, false) => some ⟨2, bs q, e0, x :: List.replicate 15 e0⟩
  | _ => if l.length = 17 then (readText (l.getLastD e0)).map (fun v => ⟨3, e0, v, (l.take 16).map (fun r => if r = textB e0 then e0 else r)⟩) else none
/-- What bytes look like. -/
def readB (items : ByteArray → Option (List ByteArray)) (s : ByteArray) : Option Nd :=
  match splitB s with
  | none => none
  | some (false, _) => some zeroN
  | some (true, b) => match items b with
    | none => none
    | some l => readItems l
def getK (items : ByteArray → Option (List ByteArray)) (g : ByteArray → Option Nd) (s : ByteArray) : Option Nd :=
  match readB items s with
  | none => none
  | some n => if validK g n = true ∧ bytesB n = s then some n else none
def getN (items : ByteArray → Option (List ByteArray)) : Nat → ByteArray → Option Nd
  | 0 => fun _ => none
  | k + 1 => getK items (getN items k)
/-- The node that bytes are. -/
def getB (items : ByteArray → Option (List ByteArray)) (s : ByteArray) : Option Nd := getN items (s.size + 1) s
/-- Only what is told of the refs matters. -/
theorem refersK_congr {g h : ByteArray → Option Nd} {r : ByteArray} (e : g r = h r) : refersK g r = refersK h r := by
  unfold refersK inlineK
  rw [e]
theorem validK_congr {g h : ByteArray → Option Nd} {n : Nd} (e : ∀ r ∈ n.refs, g r = h r) (e2 : g e0 = h e0) : validK g n = validK h n := by
  have hh : refersK g (n.refs.headD e0) = refersK h (n.refs.headD e0) := by
    refine refersK_congr ?_
    rcases hr : n.refs with _ | ⟨r, t⟩
    · exact e2
    · exact e r (by rw [hr]; simp)
  have ha : n.refs.all (fun r => decide (r = e0) || (refersK g r).isSome) = n.refs.all (fun r => decide (r = e0) || (refersK h r).isSome) := by
    rw [Bool.eq_iff_iff, List.all_eq_true, List.all_eq_true]
    constructor
    · intro k r hr
      rw [← refersK_congr (e r hr)]
      exact k r hr
    · intro k r hr
      rw [refersK_congr (e r hr)]
      exact k r hr
  unfold validK
  rw [hh, ha]
end Go.Proofs.Nod
