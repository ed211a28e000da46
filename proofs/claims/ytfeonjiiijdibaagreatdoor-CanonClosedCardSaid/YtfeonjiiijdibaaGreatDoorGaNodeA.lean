/-
  Merged: NodePlain, NodeText, NodePair, NodeBr, NodeRead, NodeFuel, NodePut.
-/
import Derived.Test.YtfeonjiiijdibaaGreatDoorGaItems
import Derived.Test.YtfeonjiiijdibaaGreatDoorGaNib
import Derived.Test.YtfeonjiiijdibaaGreatDoorGaSha
import Derived.Test.YtfeonjiiijdibaaGreatDoorGaFar
import Derived.Laws.Tables
import Derived.Great.Walk
import Derived.Great.BuildSlice
import Derived.Deep.CutBlock
import Derived.Deep.RegionHeld3
namespace Go.Proofs.Nod
open Go.Proofs.Nib (bs)
/-- A node. -/
structure Nd where
  kind : Int
  path : ByteArray
  value : ByteArray
  refs : List ByteArray
deriving DecidableEq
def e0 : ByteArray := ⟨#[]⟩
def zeroN : Nd := ⟨0, e0, e0, List.replicate 16 e0⟩
def textB (b : ByteArray) : ByteArray := bs (Rlp.text b.data.toList)
def listB (l : List ByteArray) : ByteArray := bs (Rlp.list (l.map (·.data.toList)))
/-- The first item, if there is one: whether it is a list, and what is in it. -/
def splitB (s : ByteArray) : Option (Bool × ByteArray) := match Rlp.first s.data.toList with
  | .error _ => none
  | .ok (l, f, n) => some (l, s.extract f (f + n))
def readText (item : ByteArray) : Option ByteArray := match splitB item with
  | some (false, b) => some b
  | _ => none
/-- What a ref is of, if it is of a hash. -/
def hashB (ref : ByteArray) : Option ByteArray := if ref.size = 33 ∧ textB (ref.extract 1 33) = ref then some (ref.extract 1 33) else none
/-- The node in a ref, by what Get tells. -/
def inlineK (g : ByteArray → Option Nd) (ref : ByteArray) : Option Nd := if 32 ≤ ref.size then none else match g ref with
  | some n => if n.kind = 0 then none else some n
  | none => none
/-- Whether a ref may be, and the kind of the node in it. -/
def refersK (g : ByteArray → Option Nd) (ref : ByteArray) : Option Int := if (hashB ref).isSome then some 0 else (inlineK g ref).map (·.kind)
def pathOk (p : ByteArray) : Bool := decide (p.size ≤ 12) && Nib.valid p.data.toList
def validK (g : ByteArray → Option Nd) (n : Nd) : Bool :=
  if n.kind = 0 then decide (n = zeroN)
  else if n.kind = 1 then decide (n.refs = List.replicate 16 e0) && pathOk n.path && decide (n.value ≠ e0) && decide (n.value.size ≤ 80)
  else if n.kind = 2 then decide (n.value = e0) && decide (n.refs.drop 1 = List.replicate 15 e0) && decide (n.path ≠ e0) && pathOk n.path &&
    (match refersK g (n.refs.headD e0) with | some k => decide (k = 0) || decide (k = 3) | none => false)
  else if n.kind = 3 then decide (n.path = e0) && decide (n.value.size ≤ 80) && n.refs.all (fun r => decide (r = e0) || (refersK g r).isSome) &&
    decide (2 ≤ min n.value.size 1 + (n.refs.filter (fun r => decide (r ≠ e0))).length)
  else false
def pathB (p : ByteArray) (leaf : Bool) : ByteArray := textB (bs (Nib.put p.data.toList leaf))
def bytesB (n : Nd) : ByteArray :=
  if n.kind = 1 then listB [pathB n.path true, textB n.value]
  else if n.kind = 2 then listB [pathB n.path false, n.refs.headD e0]
  else if n.kind = 3 then listB (n.refs.map (fun r => if r = e0 then textB e0 else r) ++ [textB n.value])
  else textB e0
/-- What stands in a list's bytes. -/
def readItems (l : List ByteArray) : Option Nd :=
  match l with
  | [p, x] =>
    match readText p with
    | none => none
    | some f => match Nib.get f.data.toList with
      | none => none
      | some (q, true) => (readText x).map (fun v => ⟨1, bs q, v, List.replicate 16 e0⟩)
      | some (q, false) => some ⟨2, bs q, e0, x :: List.replicate 15 e0⟩
  | _ => if l.length = 17 then (readText (l.getLastD e0)).map (fun v => ⟨3, e0, v, (l.take 16).map (fun r => if r = textB e0 then e0 else r)⟩) else none
/-- What bytes look like. -/
def readB (items : ByteArray → Option (List ByteArray)) (s : ByteArray) : Option Nd :=
  match splitB s with
  | none => none
  | some (false, _) => some zeroN
  | some (true, b) => match items b with
    | none => none
    | some l => readItems l
def getK (items : ByteArray → Option (List ByteArray)) (g : ByteArray → Option Nd) (s : ByteArray) : Option Nd :=
  match readB items s with
  | none => none
  | some n => if validK g n = true ∧ bytesB n = s then some n else none
def getN (items : ByteArray → Option (List ByteArray)) : Nat → ByteArray → Option Nd
  | 0 => fun _ => none
  | k + 1 => getK items (getN items k)
/-- The node that bytes are. -/
def getB (items : ByteArray → Option (List ByteArray)) (s : ByteArray) : Option Nd := getN items (s.size + 1) s
/-- Only what is told of the refs matters. -/
theorem refersK_congr {g h : ByteArray → Option Nd} {r : ByteArray} (e : g r = h r) : refersK g r = refersK h r := by
  unfold refersK inlineK
  rw [e]
theorem validK_congr {g h : ByteArray → Option Nd} {n : Nd} (e : ∀ r ∈ n.refs, g r = h r) (e2 : g e0 = h e0) : validK g n = validK h n := by
  have hh : refersK g (n.refs.headD e0) = refersK h (n.refs.headD e0) := by
    refine refersK_congr ?_
    rcases hr : n.refs with _ | ⟨r, t⟩
    · exact e2
    · exact e r (by rw [hr]; simp)
  have ha : n.refs.all (fun r => decide (r = e0) || (refersK g r).isSome) = n.refs.all (fun r => decide (r = e0) || (refersK h r).isSome) := by
    rw [Bool.eq_iff_iff, List.all_eq_true, List.all_eq_true]
    constructor
    · intro k r hr
      rw [← refersK_congr (e r hr)]
      exact k r hr
    · intro k r hr
      rw [refersK_congr (e r hr)]
      exact k r hr
  unfold validK
  rw [hh, ha]
end Go.Proofs.Nod
namespace Go.Proofs.Nod
open Go.Proofs.Nib (bs)
def refB (s : ByteArray) : ByteArray := if s.size < 32 then s else textB (bs (Sha.sum s.data.toList))
end Go.Proofs.Nod
namespace Go.Proofs.YtfeonjiiijdibaaGreatDoor
open Go.RowKit Go.Proofs.Nod
set_option linter.unusedVariables false
set_option linter.unusedSimpArgs false
/-- What readText hands back. -/
def Rdt (item : ByteArray) (w : World) (e : Ending) (w' : World) : Prop := ∃ b : ByteArray, e = .returned (.tuple #[.string b, .bool (readText item).isSome]) ∧ (∀ v, readText item = some v → b = v) ∧ b.size ≤ item.size ∧ Below w.heap.size w w'
set_option maxHeartbeats 1000000 in
theorem readText_any (item : ByteArray) (w : World) (hs : item.size ≤ 70368744177664) (hl : Laid2 w) :
    Calls Tryz.prog 125 #[.string item] w (Rdt item w) := by
  have hz := split_any item w hs hl
  rcases hT : Rlp.first item.data.toList with e | ⟨l, f, n⟩
  · have hr : readText item = none := by unfold readText splitB; rw [hT]
    simp only [hT, splitVal] at hz
    have HZ := Lib.hid hz
    have HR := Lib.hid hr
    clear hz hT hr
    go_enter Tryz.func125, Tryz.ntmps125
    go_wp2_with fail
    refine HZ.out.mono ?_
    rintro e w1 ⟨rfl, bw⟩
    have BW := Lib.hid bw
    clear bw
    go_wp2_with fail
    go_returns
    exact ⟨ByteArray.empty, by rw [HR.out]; rfl, (fun v h => by rw [HR.out] at h; cases h), Nat.zero_le _, BW.out⟩
  · have hf := (Rlp.first_ok hT).1
    have hx : (item.extract f (f + n)).size ≤ item.size := by rw [extract_size item f n (by simpa using hf)]; have := hf; simp at this; omega
    simp only [hT, splitVal] at hz
    obtain ⟨X, hX⟩ : ∃ X, X = item.extract f (f + n) := ⟨_, rfl⟩
    obtain ⟨Y, hY⟩ : ∃ Y, Y = item.extract (f + n) item.size := ⟨_, rfl⟩
    rw [← hX, ← hY] at hz
    rw [← hX] at hx
    have hr : readText item = if l = true then none else some X := by unfold readText splitB; rw [hT, hX]; cases l <;> rfl
    have HZ := Lib.hid hz
    have HR := Lib.hid hr
    have HX := Lib.hid hx
    clear hz hT hr hX hY hf hx
    rcases l with _ | _
    all_goals
      go_enter Tryz.func125, Tryz.ntmps125
      go_wp2_with fail
      refine HZ.out.mono ?_
      rintro e w1 ⟨rfl, bw⟩
      have BW := Lib.hid bw
      clear bw
      go_wp2_with fail
      go_returns
      exact ⟨X, by rw [HR.out]; rfl, (fun v h => by (rw [HR.out] at h; simp at h; try exact h)), HX.out, BW.out⟩
theorem slice_one (s : ByteArray) (h : 1 ≤ s.size) (W : World) : (Instr.slice 9 (.string s) (some (.int .i64 1)) none none).run Tryz.prog W = .ok (.string (s.extract 1 s.size)) W := by
  rw [run_slice_string_l _ _ _ Tryz.underlying9 _ _ (by omega) (by omega)]
  rfl
set_option maxHeartbeats 1000000 in
theorem hash_any (ref : ByteArray) (w : World) :
    Calls Tryz.prog 67 #[.string ref] w fun e w' => e = .returned (.tuple #[.string ((hashB ref).getD e0), .bool (hashB ref).isSome]) ∧ Below w.heap.size w w' := by
  by_cases h33 : ref.size = 33
  · have hs : ref.size ≤ 70368744177664 := by omega
    have sl : ∀ W : World, (Instr.slice 9 (.string ref) (some (.int .i64 1)) none none).run Tryz.prog W = .ok (.string (ref.extract 1 33)) W := fun W => by
      have := slice_one ref (by omega) W
      rwa [h33] at this
    obtain ⟨X, hX⟩ : ∃ X, X = ref.extract 1 33 := ⟨_, rfl⟩
    have hXs : X.size = 32 := by rw [hX]; have := extract_size ref 1 32 (by omega); exact this
    have ht := fun W => text_any X W (by omega)
    have i1 : ((ref.size : Int) == 33) = true := by simp; omega
    have i2 : ((ref.size : Int) != 33) = false := by simp; omega
    rw [← hX] at sl
    have hh : hashB ref = if textB X = ref then some X else none := by
      unfold hashB
      rw [← hX]
      by_cases h : textB X = ref
      · rw [if_pos ⟨h33, h⟩, if_pos h]
      · rw [if_neg (fun k => h k.2), if_neg h]
    obtain ⟨T, hT⟩ : ∃ T, T = textB X := ⟨_, rfl⟩
    have ht2 : ∀ W, Calls Tryz.prog 73 #[.string X] W fun e w' => e = .returned (.string T) ∧ Below W.heap.size W w' := fun W => by rw [hT]; exact ht W
    rw [← hT] at hh
    have HT := Lib.hid ht2
    have HH := Lib.hid hh
    clear ht ht2 hT hX hh h33 hXs hs
    by_cases he : T = ref
    · have be : (T.toList == ref.toList) = true := by rw [bytes_eq]; simp [he]
      have be2 : (T.toList != ref.toList) = false := by rw [bne, be]; rfl
      have HE := Lib.hid he
      clear he
      go_enter Tryz.func67, Tryz.ntmps67
      go_wp2_with fail
      refine (HT.out _).mono ?_
      rintro e w1 ⟨rfl, bw⟩
      have BW := Lib.hid bw
      clear bw
      go_wp2_with fail
      go_returns
      exact ⟨by rw [HH.out, if_pos HE.out]; rfl, BW.out⟩
    · have be : (T.toList == ref.toList) = false := by rw [bytes_eq]; simp [he]
      have be2 : (T.toList != ref.toList) = true := by rw [bne, be]; rfl
      have HE := Lib.hid he
      clear he
      go_enter Tryz.func67, Tryz.ntmps67
      go_wp2_with fail
      refine (HT.out _).mono ?_
      rintro e w1 ⟨rfl, bw⟩
      have BW := Lib.hid bw
      clear bw
      go_wp2_with fail
      go_returns
      exact ⟨by rw [HH.out, if_neg HE.out]; rfl, BW.out⟩
  · have hh : hashB ref = none := by unfold hashB; rw [if_neg (fun k => h33 k.1)]
    rw [hh]
    have i1 : ((ref.size : Int) == 33) = false := by simp; omega
    have i2 : ((ref.size : Int) != 33) = true := by simp; omega
    clear h33 hh
    go_enter Tryz.func67, Tryz.ntmps67
    go_wp2_with fail
    go_returns
    exact ⟨rfl, Below.refl _ _⟩
set_option maxHeartbeats 1000000 in
theorem ref_any (s : ByteArray) (w : World) (hs : s.size ≤ 1048576) (hl : Laid w) :
    Calls Tryz.prog 42 #[.string s] w fun e w' => e = .returned (.string (refB s)) ∧ Below w.heap.size w w' := by
  unfold refB
  by_cases h : s.size < 32
  · rw [if_pos h]
    have i1 : (s.size : Int) < 32 := by omega
    go_enter Tryz.func42, Tryz.ntmps42
    go_wp2_with fail
    go_ret
    exact ⟨rfl, Below.refl _ _⟩
  · rw [if_neg h]
    have i1 : ¬ (s.size : Int) < 32 := by omega
    have hb : Below w.heap.size w (w.alloc (.cells #[.string s] 9)) := (Below.refl _ _).alloc (Nat.le_refl _) _
    have ho := of_any w.heap.size 0 1 [s] (w.alloc (.cells #[.string s] 9)) (Laid.below hl (B := w.heap.size) (by obtain ⟨_, _, _, h⟩ := hl; exact (Array.getElem?_eq_some_iff.1 h).1) hb) (by simp) (by simp; omega) (by simp) (by
      intro i hi
      simp at hi
      subst hi
      simp)
    have hcat : Sha.cat [s] = s.data.toList := by simp [Sha.cat]
    rw [hcat] at ho
    obtain ⟨D, hD⟩ : ∃ D, D = Nib.bs (Sha.sum s.data.toList) := ⟨_, rfl⟩
    rw [← hD] at ho ⊢
    have hDs : D.size ≤ 70368744177664 := by rw [hD, Nib.bs_size, Sha.sum, out_length]; omega
    have HO := Lib.hid ho
    have HT := Lib.hid (fun W => text_any D W hDs)
    have HB := Lib.hid hb
    clear ho hb hcat hD h
    go_enter Tryz.func42, Tryz.ntmps42
    go_wp2_with fail
    refine HO.out.mono ?_
    rintro e w1 ⟨rfl, bw⟩
    have BW := Lib.hid (HB.out.trans (bw.mono HB.out.size))
    clear bw
    go_wp2_with fail
    refine (HT.out _).mono ?_
    rintro e w2 ⟨rfl, bw⟩
    have BW2 := Lib.hid (BW.out.trans (bw.mono BW.out.size))
    clear bw
    go_wp2_with fail
    go_ret
    exact ⟨rfl, BW2.out⟩
end Go.Proofs.YtfeonjiiijdibaaGreatDoor
namespace Go.Proofs.Nod
open Go.Proofs.Nib (bs)
/-- A ref of a node. -/
def rf (n : Nd) (i : Nat) : ByteArray := n.refs.getD i e0
end Go.Proofs.Nod
namespace Go.Proofs.YtfeonjiiijdibaaGreatDoor
open Go.RowKit Go.Proofs.Nod
set_option linter.unusedVariables false
set_option linter.unusedSimpArgs false
/-- A node's cells. -/
def ndC (n : Nd) : Array Value := #[.int .i64 n.kind, .string n.path, .string n.value, .string (rf n 0), .string (rf n 1), .string (rf n 2), .string (rf n 3), .string (rf n 4), .string (rf n 5), .string (rf n 6), .string (rf n 7), .string (rf n 8), .string (rf n 9), .string (rf n 10), .string (rf n 11), .string (rf n 12), .string (rf n 13), .string (rf n 14), .string (rf n 15)]
theorem isAggNd (w : World) : (isAgg 51).run Tryz.prog w = .ok true w := by kernel_rfl
theorem cellsNd : Tryz.prog.cellsOf 51 = 19 := by kernel_rfl
theorem load_blk {w : World} {g : Nat} {T : TypeId} {cs : Array Value} (h : Blk w g T cs) (n : Nat) (hn : cs.size = n) : (loadCells ⟨g, 0, none⟩ n).run Tryz.prog w = .ok cs w := by
  subst hn
  have := run_loadCells_list (P := Tryz.prog) w ⟨g, 0, none⟩ cs.toList (fun j v hj => by
    rw [Addr.add_mid, Nat.zero_add, h.cell]
    simpa using hj)
  simpa using this
theorem results_n2 {fn : Func} {s s5 : Tmp} (h : fn.results = #[.cell s 51, .tmp s5]) (tmps : Array Value) (w : World) (g : Nat) (h4 : tmps[s]?.getD undef = .pointer (some ⟨g, 0, none⟩)) {x : Value} (h5 : tmps[s5]?.getD undef = x) {T : TypeId} {cs : Array Value} (hb : Blk w g T cs) (hs : cs.size = 19) :
    (results fn tmps).run Tryz.prog w = .ok (.tuple #[.agg cs, x]) w := by
  simp [results, h, h4, h5, loadVar, isAggNd, asAddr, cellsNd, load_blk hb 19 hs, Result.andThen]
theorem nget_any (s : ByteArray) (w : World) (hs : s.size ≤ 70368744177664) :
    Calls Tryz.prog 126 #[.string s] w fun e w' => e = .returned (getV (Nib.get s.data.toList)) ∧ Below w.heap.size w w' := by
  rcases hp : s.data.toList with _ | ⟨a, t⟩
  · have : s = ⟨#[]⟩ := by apply ByteArray.ext; apply Array.toList_inj.1; rw [hp]
    subst this
    exact get_empty w
  · have hp2 : Nib.path s.data.toList = (a / 16) :: (a % 16) :: Nib.path t := by rw [hp]; rfl
    have := get_some s w hs _ _ _ hp2
    rw [hp] at this
    exact this
/-- What reads a node hands back: it, if there is one. -/
def Rnd (o : Option Nd) (w : World) (e : Ending) (w' : World) : Prop := ∃ n : Nd, e = .returned (.tuple #[.agg (ndC n), .bool o.isSome]) ∧ (∀ m, o = some m → n = m) ∧ Below w.heap.size w w'
theorem rf_zero (i : Nat) : rf zeroN i = ⟨#[]⟩ := by
  unfold rf zeroN
  simp only [List.getD_eq_getElem?_getD, List.getElem?_replicate]
  split <;> rfl
theorem ndC_zero : ndC zeroN = #[.int .i64 0, .string ⟨#[]⟩, .string ⟨#[]⟩, .string ⟨#[]⟩, .string ⟨#[]⟩, .string ⟨#[]⟩, .string ⟨#[]⟩, .string ⟨#[]⟩, .string ⟨#[]⟩, .string ⟨#[]⟩, .string ⟨#[]⟩, .string ⟨#[]⟩, .string ⟨#[]⟩, .string ⟨#[]⟩, .string ⟨#[]⟩, .string ⟨#[]⟩, .string ⟨#[]⟩, .string ⟨#[]⟩, .string ⟨#[]⟩] := by
  unfold ndC
  simp only [rf_zero]
  rfl
def leafN (p v : ByteArray) : Nd := ⟨1, p, v, List.replicate 16 e0⟩
def extN (p x : ByteArray) : Nd := ⟨2, p, e0, x :: List.replicate 15 e0⟩
theorem ndC_leaf (p v : ByteArray) : ndC (leafN p v) = #[.int .i64 1, .string p, .string v, .string ⟨#[]⟩, .string ⟨#[]⟩, .string ⟨#[]⟩, .string ⟨#[]⟩, .string ⟨#[]⟩, .string ⟨#[]⟩, .string ⟨#[]⟩, .string ⟨#[]⟩, .string ⟨#[]⟩, .string ⟨#[]⟩, .string ⟨#[]⟩, .string ⟨#[]⟩, .string ⟨#[]⟩, .string ⟨#[]⟩, .string ⟨#[]⟩, .string ⟨#[]⟩] := rfl
theorem ndC_ext (p x : ByteArray) : ndC (extN p x) = #[.int .i64 2, .string p, .string ⟨#[]⟩, .string x, .string ⟨#[]⟩, .string ⟨#[]⟩, .string ⟨#[]⟩, .string ⟨#[]⟩, .string ⟨#[]⟩, .string ⟨#[]⟩, .string ⟨#[]⟩, .string ⟨#[]⟩, .string ⟨#[]⟩, .string ⟨#[]⟩, .string ⟨#[]⟩, .string ⟨#[]⟩, .string ⟨#[]⟩, .string ⟨#[]⟩, .string ⟨#[]⟩] := rfl
/-- What making a node, and laying its parts, does. -/
theorem al_nd (W : World) (ρ : Operand → Value) (d : Option Tmp) (ty : TypeId) (ps : String) (g : Option (Nat × Bool)) : (execOp ρ { dst := d, op := .alloc 51, type := ty, pos := ps, after := #[], guard := g }).run Tryz.prog W = .ok (.value (.pointer (some ⟨W.heap.size, 0, none⟩))) (W.alloc (.cells #[.int .i64 0, .string ⟨#[]⟩, .string ⟨#[]⟩, .string ⟨#[]⟩, .string ⟨#[]⟩, .string ⟨#[]⟩, .string ⟨#[]⟩, .string ⟨#[]⟩, .string ⟨#[]⟩, .string ⟨#[]⟩, .string ⟨#[]⟩, .string ⟨#[]⟩, .string ⟨#[]⟩, .string ⟨#[]⟩, .string ⟨#[]⟩, .string ⟨#[]⟩, .string ⟨#[]⟩, .string ⟨#[]⟩, .string ⟨#[]⟩] 51)) := by kernel_rfl
theorem built_zero : Tryz.prog.built 51 [] = some #[.int .i64 0, .string ⟨#[]⟩, .string ⟨#[]⟩, .string ⟨#[]⟩, .string ⟨#[]⟩, .string ⟨#[]⟩, .string ⟨#[]⟩, .string ⟨#[]⟩, .string ⟨#[]⟩, .string ⟨#[]⟩, .string ⟨#[]⟩, .string ⟨#[]⟩, .string ⟨#[]⟩, .string ⟨#[]⟩, .string ⟨#[]⟩, .string ⟨#[]⟩, .string ⟨#[]⟩, .string ⟨#[]⟩, .string ⟨#[]⟩] := by kernel_rfl
theorem built_leaf (p v : ByteArray) : Tryz.prog.built 51 [(0, .int .i64 1), (1, .string p), (2, .string v)] = some #[.int .i64 1, .string p, .string v, .string ⟨#[]⟩, .string ⟨#[]⟩, .string ⟨#[]⟩, .string ⟨#[]⟩, .string ⟨#[]⟩, .string ⟨#[]⟩, .string ⟨#[]⟩, .string ⟨#[]⟩, .string ⟨#[]⟩, .string ⟨#[]⟩, .string ⟨#[]⟩, .string ⟨#[]⟩, .string ⟨#[]⟩, .string ⟨#[]⟩, .string ⟨#[]⟩, .string ⟨#[]⟩] := by kernel_rfl
theorem built_ext (p : ByteArray) : Tryz.prog.built 51 [(0, .int .i64 2), (1, .string p)] = some #[.int .i64 2, .string p, .string ⟨#[]⟩, .string ⟨#[]⟩, .string ⟨#[]⟩, .string ⟨#[]⟩, .string ⟨#[]⟩, .string ⟨#[]⟩, .string ⟨#[]⟩, .string ⟨#[]⟩, .string ⟨#[]⟩, .string ⟨#[]⟩, .string ⟨#[]⟩, .string ⟨#[]⟩, .string ⟨#[]⟩, .string ⟨#[]⟩, .string ⟨#[]⟩, .string ⟨#[]⟩, .string ⟨#[]⟩] := by kernel_rfl
def pairF (pt vt : Option ByteArray) (what : ByteArray) : Option Nd :=
  match pt with
  | none => none
  | some f => match Nib.get f.data.toList with
    | none => none
    | some (q, true) => vt.map (fun v => leafN (Nib.bs q) v)
    | some (q, false) => some (extN (Nib.bs q) what)
theorem pair_eq (path what : ByteArray) : readItems [path, what] = pairF (readText path) (readText what) what := rfl
set_option maxRecDepth 100000 in
set_option maxHeartbeats 2000000 in
theorem readPair_any (path what : ByteArray) (w : World) (hs : path.size ≤ 1048576) (hs2 : what.size ≤ 1048576) (hl : Laid2 w) :
    Calls Tryz.prog 87 #[.string path, .string what] w (Rnd (readItems [path, what]) w) := by
  have b0 : Below w.heap.size w (w.alloc (.cells (ndC zeroN) 51)) := (Below.refl _ _).alloc (Nat.le_refl _) _
  have r1 := readText_any path (w.alloc (.cells (ndC zeroN) 51)) (by omega) (hl.on b0 (Nat.le_refl _))
  rw [ndC_zero] at r1 b0
  have R1 := Lib.hid r1
  have B0 := Lib.hid b0
  have HL := Lib.hid hl
  rw [pair_eq]
  have RW := Lib.hid (fun W (h : Laid2 W) => readText_any what W (by omega) h)
  unfold Rdt at R1 RW
  obtain ⟨PT, hPT⟩ : ∃ o, o = readText path := ⟨_, rfl⟩
  obtain ⟨VT, hVT⟩ : ∃ o, o = readText what := ⟨_, rfl⟩
  rw [← hPT] at R1 ⊢
  rw [← hVT] at RW ⊢
  obtain ⟨OUT, hOUT⟩ : ∃ o, o = pairF PT VT what := ⟨_, rfl⟩
  rw [← hOUT]
  have HOU := Lib.hid hOUT
  clear r1 b0 hl hPT hVT hOUT
  have AL := Lib.hid al_nd
  have BZ := Lib.hid built_zero
  go_enter Tryz.func87, Tryz.ntmps87
  go_wp2_with (refine Great.wpList_allocTo rfl (some 4) rfl (.pointer (some ⟨w.heap.size, 0, none⟩)) (.cells #[.int .i64 0, .string ⟨#[]⟩, .string ⟨#[]⟩, .string ⟨#[]⟩, .string ⟨#[]⟩, .string ⟨#[]⟩, .string ⟨#[]⟩, .string ⟨#[]⟩, .string ⟨#[]⟩, .string ⟨#[]⟩, .string ⟨#[]⟩, .string ⟨#[]⟩, .string ⟨#[]⟩, .string ⟨#[]⟩, .string ⟨#[]⟩, .string ⟨#[]⟩, .string ⟨#[]⟩, .string ⟨#[]⟩, .string ⟨#[]⟩] 51) (AL.out w _ _ _ _ _) ?_)
  refine R1.out.mono ?_
  rintro e w1 ⟨f, rfl, hf, hfs, hb1⟩
  have B1 := Lib.hid (B0.out.trans (hb1.mono B0.out.size))
  have HF := Lib.hid hf
  have HFS := Lib.hid hfs
  have KB := Lib.hid ((Blk.new w 51 (ndC zeroN)).below (by rw [ndC_zero]; exact hb1))
  clear hf hfs hb1 R1
  go_wp2_with fail
  refine (nget_any f w1 (by have := HFS.out; omega)).mono ?_
  rintro e w2 ⟨rfl, hb2⟩
  have B2 := Lib.hid (B1.out.trans (hb2.mono B1.out.size))
  have KB2 := Lib.hid (KB.out.below hb2)
  clear hb2 B1 KB
  obtain ⟨NG, hNG⟩ : ∃ g, g = Nib.get f.data.toList := ⟨_, rfl⟩
  rw [← hNG]
  have HNG := Lib.hid hNG
  clear hNG
  have hold : (ndC zeroN).size = 19 := rfl
  have KBH : Hid (w2.heap[w.heap.size]? = some (.cells #[.int .i64 0, .string ⟨#[]⟩, .string ⟨#[]⟩, .string ⟨#[]⟩, .string ⟨#[]⟩, .string ⟨#[]⟩, .string ⟨#[]⟩, .string ⟨#[]⟩, .string ⟨#[]⟩, .string ⟨#[]⟩, .string ⟨#[]⟩, .string ⟨#[]⟩, .string ⟨#[]⟩, .string ⟨#[]⟩, .string ⟨#[]⟩, .string ⟨#[]⟩, .string ⟨#[]⟩, .string ⟨#[]⟩, .string ⟨#[]⟩] 51 (0, 0))) := Lib.hid (by have := KB2.out; rw [ndC_zero] at this; exact this)
  have INF : Hid ((Tryz.prog.info? 51).map (·.size) = some (#[.int .i64 0, .string ⟨#[]⟩, .string ⟨#[]⟩, .string ⟨#[]⟩, .string ⟨#[]⟩, .string ⟨#[]⟩, .string ⟨#[]⟩, .string ⟨#[]⟩, .string ⟨#[]⟩, .string ⟨#[]⟩, .string ⟨#[]⟩, .string ⟨#[]⟩, .string ⟨#[]⟩, .string ⟨#[]⟩, .string ⟨#[]⟩, .string ⟨#[]⟩, .string ⟨#[]⟩, .string ⟨#[]⟩, .string ⟨#[]⟩] : Array Value).size) := Lib.hid (by kernel_rfl)
  have ONE : Hid ((#[.int .i64 0, .string ⟨#[]⟩, .string ⟨#[]⟩, .string ⟨#[]⟩, .string ⟨#[]⟩, .string ⟨#[]⟩, .string ⟨#[]⟩, .string ⟨#[]⟩, .string ⟨#[]⟩, .string ⟨#[]⟩, .string ⟨#[]⟩, .string ⟨#[]⟩, .string ⟨#[]⟩, .string ⟨#[]⟩, .string ⟨#[]⟩, .string ⟨#[]⟩, .string ⟨#[]⟩, .string ⟨#[]⟩, .string ⟨#[]⟩] : Array Value).all (·.oneCell') = true) := Lib.hid (by kernel_rfl)
  have HBEL := Lib.hid (fun cs => (Bl.setRow (g := w.heap.size) ⟨B2.out, B2.out.size⟩ (Nat.le_refl _) cs).1)
  clear hold
  have ZEND : Hid (Blk (w2.setRow w.heap.size #[.int .i64 0, .string ⟨#[]⟩, .string ⟨#[]⟩, .string ⟨#[]⟩, .string ⟨#[]⟩, .string ⟨#[]⟩, .string ⟨#[]⟩, .string ⟨#[]⟩, .string ⟨#[]⟩, .string ⟨#[]⟩, .string ⟨#[]⟩, .string ⟨#[]⟩, .string ⟨#[]⟩, .string ⟨#[]⟩, .string ⟨#[]⟩, .string ⟨#[]⟩, .string ⟨#[]⟩, .string ⟨#[]⟩, .string ⟨#[]⟩]) w.heap.size 51 #[.int .i64 0, .string ⟨#[]⟩, .string ⟨#[]⟩, .string ⟨#[]⟩, .string ⟨#[]⟩, .string ⟨#[]⟩, .string ⟨#[]⟩, .string ⟨#[]⟩, .string ⟨#[]⟩, .string ⟨#[]⟩, .string ⟨#[]⟩, .string ⟨#[]⟩, .string ⟨#[]⟩, .string ⟨#[]⟩, .string ⟨#[]⟩, .string ⟨#[]⟩, .string ⟨#[]⟩, .string ⟨#[]⟩, .string ⟨#[]⟩]) := Lib.hid (heap_setRow _ _ _ _ _ _ KBH.out)
  rcases PT with _ | f'
  · rcases NG with _ | ⟨q, leaf⟩
    all_goals
      simp only [getV]
      go_wp2_with (first | (refine wpList_buildTo rfl 51 #[] rfl (some 31) rfl #[.int .i64 0, .string ⟨#[]⟩, .string ⟨#[]⟩, .string ⟨#[]⟩, .string ⟨#[]⟩, .string ⟨#[]⟩, .string ⟨#[]⟩, .string ⟨#[]⟩, .string ⟨#[]⟩, .string ⟨#[]⟩, .string ⟨#[]⟩, .string ⟨#[]⟩, .string ⟨#[]⟩, .string ⟨#[]⟩, .string ⟨#[]⟩, .string ⟨#[]⟩, .string ⟨#[]⟩, .string ⟨#[]⟩, .string ⟨#[]⟩] BZ.out ?_) | (refine wpList_store_rowTo rfl 51 (.tmp 4) (.tmp 31) rfl rfl w.heap.size #[.int .i64 0, .string ⟨#[]⟩, .string ⟨#[]⟩, .string ⟨#[]⟩, .string ⟨#[]⟩, .string ⟨#[]⟩, .string ⟨#[]⟩, .string ⟨#[]⟩, .string ⟨#[]⟩, .string ⟨#[]⟩, .string ⟨#[]⟩, .string ⟨#[]⟩, .string ⟨#[]⟩, .string ⟨#[]⟩, .string ⟨#[]⟩, .string ⟨#[]⟩, .string ⟨#[]⟩, .string ⟨#[]⟩, .string ⟨#[]⟩] rfl rfl 51 _ KBH.out INF.out rfl ONE.out ?_))
      exact bodyPost_ret (results_n2 rfl _ _ _ rfl rfl ZEND.out rfl) rfl ⟨zeroN, by rw [ndC_zero, HOU.out]; rfl, (fun m h => by rw [HOU.out] at h; simp [pairF] at h), HBEL.out _⟩
  · obtain rfl := HF.out f' rfl
    rcases NG with _ | ⟨q, leaf⟩
    · simp only [getV]
      go_wp2_with (first | (refine wpList_buildTo rfl 51 #[] rfl (some 31) rfl #[.int .i64 0, .string ⟨#[]⟩, .string ⟨#[]⟩, .string ⟨#[]⟩, .string ⟨#[]⟩, .string ⟨#[]⟩, .string ⟨#[]⟩, .string ⟨#[]⟩, .string ⟨#[]⟩, .string ⟨#[]⟩, .string ⟨#[]⟩, .string ⟨#[]⟩, .string ⟨#[]⟩, .string ⟨#[]⟩, .string ⟨#[]⟩, .string ⟨#[]⟩, .string ⟨#[]⟩, .string ⟨#[]⟩, .string ⟨#[]⟩] BZ.out ?_) | (refine wpList_store_rowTo rfl 51 (.tmp 4) (.tmp 31) rfl rfl w.heap.size #[.int .i64 0, .string ⟨#[]⟩, .string ⟨#[]⟩, .string ⟨#[]⟩, .string ⟨#[]⟩, .string ⟨#[]⟩, .string ⟨#[]⟩, .string ⟨#[]⟩, .string ⟨#[]⟩, .string ⟨#[]⟩, .string ⟨#[]⟩, .string ⟨#[]⟩, .string ⟨#[]⟩, .string ⟨#[]⟩, .string ⟨#[]⟩, .string ⟨#[]⟩, .string ⟨#[]⟩, .string ⟨#[]⟩, .string ⟨#[]⟩] rfl rfl 51 _ KBH.out INF.out rfl ONE.out ?_))
      exact bodyPost_ret (results_n2 rfl _ _ _ rfl rfl ZEND.out rfl) rfl ⟨zeroN, by rw [ndC_zero, HOU.out]; simp [pairF, ← HNG.out], (fun m h => by rw [HOU.out] at h; simp [pairF, ← HNG.out] at h), HBEL.out _⟩
    · simp only [getV]
      rcases leaf with _ | _
      · have hp : pairF (some f) VT what = some (extN (Nib.bs q) what) := by unfold pairF; simp only [← HNG.out]
        have HP := Lib.hid (HOU.out.trans hp)
        clear hp HNG HOU
        have BEX := Lib.hid (built_ext (Nib.bs q))
        have HGX : Hid ((w2.alloc (.cells #[.int .i64 0, .string ⟨#[]⟩, .string ⟨#[]⟩, .string ⟨#[]⟩, .string ⟨#[]⟩, .string ⟨#[]⟩, .string ⟨#[]⟩, .string ⟨#[]⟩, .string ⟨#[]⟩, .string ⟨#[]⟩, .string ⟨#[]⟩, .string ⟨#[]⟩, .string ⟨#[]⟩, .string ⟨#[]⟩, .string ⟨#[]⟩, .string ⟨#[]⟩, .string ⟨#[]⟩, .string ⟨#[]⟩, .string ⟨#[]⟩] 51)).heap[w2.heap.size]? = some (.cells #[.int .i64 0, .string ⟨#[]⟩, .string ⟨#[]⟩, .string ⟨#[]⟩, .string ⟨#[]⟩, .string ⟨#[]⟩, .string ⟨#[]⟩, .string ⟨#[]⟩, .string ⟨#[]⟩, .string ⟨#[]⟩, .string ⟨#[]⟩, .string ⟨#[]⟩, .string ⟨#[]⟩, .string ⟨#[]⟩, .string ⟨#[]⟩, .string ⟨#[]⟩, .string ⟨#[]⟩, .string ⟨#[]⟩, .string ⟨#[]⟩] 51 (0, 0))) := Lib.hid (Blk.new w2 51 #[.int .i64 0, .string ⟨#[]⟩, .string ⟨#[]⟩, .string ⟨#[]⟩, .string ⟨#[]⟩, .string ⟨#[]⟩, .string ⟨#[]⟩, .string ⟨#[]⟩, .string ⟨#[]⟩, .string ⟨#[]⟩, .string ⟨#[]⟩, .string ⟨#[]⟩, .string ⟨#[]⟩, .string ⟨#[]⟩, .string ⟨#[]⟩, .string ⟨#[]⟩, .string ⟨#[]⟩, .string ⟨#[]⟩, .string ⟨#[]⟩])
        go_upto_region 9 with (first
          | (refine wpList_buildTo rfl 51 #[(0, .const (.int .i64 2)), (1, .tmp 42)] rfl (some 43) rfl #[.int .i64 2, .string (Nib.bs q), .string ⟨#[]⟩, .string ⟨#[]⟩, .string ⟨#[]⟩, .string ⟨#[]⟩, .string ⟨#[]⟩, .string ⟨#[]⟩, .string ⟨#[]⟩, .string ⟨#[]⟩, .string ⟨#[]⟩, .string ⟨#[]⟩, .string ⟨#[]⟩, .string ⟨#[]⟩, .string ⟨#[]⟩, .string ⟨#[]⟩, .string ⟨#[]⟩, .string ⟨#[]⟩, .string ⟨#[]⟩] BEX.out ?_)
          | (refine Great.wpList_allocTo rfl (some 13) rfl (.pointer (some ⟨w2.heap.size, 0, none⟩)) (.cells #[.int .i64 0, .string ⟨#[]⟩, .string ⟨#[]⟩, .string ⟨#[]⟩, .string ⟨#[]⟩, .string ⟨#[]⟩, .string ⟨#[]⟩, .string ⟨#[]⟩, .string ⟨#[]⟩, .string ⟨#[]⟩, .string ⟨#[]⟩, .string ⟨#[]⟩, .string ⟨#[]⟩, .string ⟨#[]⟩, .string ⟨#[]⟩, .string ⟨#[]⟩, .string ⟨#[]⟩, .string ⟨#[]⟩, .string ⟨#[]⟩] 51) (AL.out w2 _ _ _ _ _) ?_)
          | (refine wpList_store_rowTo rfl 51 (.tmp 13) (.tmp 43) rfl rfl w2.heap.size #[.int .i64 2, .string (Nib.bs q), .string ⟨#[]⟩, .string ⟨#[]⟩, .string ⟨#[]⟩, .string ⟨#[]⟩, .string ⟨#[]⟩, .string ⟨#[]⟩, .string ⟨#[]⟩, .string ⟨#[]⟩, .string ⟨#[]⟩, .string ⟨#[]⟩, .string ⟨#[]⟩, .string ⟨#[]⟩, .string ⟨#[]⟩, .string ⟨#[]⟩, .string ⟨#[]⟩, .string ⟨#[]⟩, .string ⟨#[]⟩] rfl rfl 51 _ HGX.out INF.out rfl (by simp [Value.oneCell']) ?_))
        rw [World.setRow_alloc_new]
        have KX := Lib.hid (Blk.new w2 51 #[.int .i64 2, .string (Nib.bs q), .string ⟨#[]⟩, .string what, .string ⟨#[]⟩, .string ⟨#[]⟩, .string ⟨#[]⟩, .string ⟨#[]⟩, .string ⟨#[]⟩, .string ⟨#[]⟩, .string ⟨#[]⟩, .string ⟨#[]⟩, .string ⟨#[]⟩, .string ⟨#[]⟩, .string ⟨#[]⟩, .string ⟨#[]⟩, .string ⟨#[]⟩, .string ⟨#[]⟩, .string ⟨#[]⟩])
        have KN := Lib.hid ((show Blk w2 w.heap.size 51 #[.int .i64 0, .string ⟨#[]⟩, .string ⟨#[]⟩, .string ⟨#[]⟩, .string ⟨#[]⟩, .string ⟨#[]⟩, .string ⟨#[]⟩, .string ⟨#[]⟩, .string ⟨#[]⟩, .string ⟨#[]⟩, .string ⟨#[]⟩, .string ⟨#[]⟩, .string ⟨#[]⟩, .string ⟨#[]⟩, .string ⟨#[]⟩, .string ⟨#[]⟩, .string ⟨#[]⟩, .string ⟨#[]⟩, .string ⟨#[]⟩] from KBH.out).alloc (.cells #[.int .i64 2, .string (Nib.bs q), .string ⟨#[]⟩, .string what, .string ⟨#[]⟩, .string ⟨#[]⟩, .string ⟨#[]⟩, .string ⟨#[]⟩, .string ⟨#[]⟩, .string ⟨#[]⟩, .string ⟨#[]⟩, .string ⟨#[]⟩, .string ⟨#[]⟩, .string ⟨#[]⟩, .string ⟨#[]⟩, .string ⟨#[]⟩, .string ⟨#[]⟩, .string ⟨#[]⟩, .string ⟨#[]⟩] 51))
        have BX := Lib.hid ((show Bl w.heap.size w w2 from ⟨B2.out, B2.out.size⟩).alloc (.cells #[.int .i64 2, .string (Nib.bs q), .string ⟨#[]⟩, .string what, .string ⟨#[]⟩, .string ⟨#[]⟩, .string ⟨#[]⟩, .string ⟨#[]⟩, .string ⟨#[]⟩, .string ⟨#[]⟩, .string ⟨#[]⟩, .string ⟨#[]⟩, .string ⟨#[]⟩, .string ⟨#[]⟩, .string ⟨#[]⟩, .string ⟨#[]⟩, .string ⟨#[]⟩, .string ⟨#[]⟩, .string ⟨#[]⟩] 51))
        go_upto_region 10 with (fail)
        have XEND : Hid (Blk ((w2.alloc (.cells #[.int .i64 2, .string (Nib.bs q), .string ⟨#[]⟩, .string what, .string ⟨#[]⟩, .string ⟨#[]⟩, .string ⟨#[]⟩, .string ⟨#[]⟩, .string ⟨#[]⟩, .string ⟨#[]⟩, .string ⟨#[]⟩, .string ⟨#[]⟩, .string ⟨#[]⟩, .string ⟨#[]⟩, .string ⟨#[]⟩, .string ⟨#[]⟩, .string ⟨#[]⟩, .string ⟨#[]⟩, .string ⟨#[]⟩] 51)).setRow w.heap.size #[.int .i64 2, .string (Nib.bs q), .string ⟨#[]⟩, .string what, .string ⟨#[]⟩, .string ⟨#[]⟩, .string ⟨#[]⟩, .string ⟨#[]⟩, .string ⟨#[]⟩, .string ⟨#[]⟩, .string ⟨#[]⟩, .string ⟨#[]⟩, .string ⟨#[]⟩, .string ⟨#[]⟩, .string ⟨#[]⟩, .string ⟨#[]⟩, .string ⟨#[]⟩, .string ⟨#[]⟩, .string ⟨#[]⟩]) w.heap.size 51 #[.int .i64 2, .string (Nib.bs q), .string ⟨#[]⟩, .string what, .string ⟨#[]⟩, .string ⟨#[]⟩, .string ⟨#[]⟩, .string ⟨#[]⟩, .string ⟨#[]⟩, .string ⟨#[]⟩, .string ⟨#[]⟩, .string ⟨#[]⟩, .string ⟨#[]⟩, .string ⟨#[]⟩, .string ⟨#[]⟩, .string ⟨#[]⟩, .string ⟨#[]⟩, .string ⟨#[]⟩, .string ⟨#[]⟩]) := Lib.hid (heap_setRow _ _ _ _ _ _ KN.out)
        have XBEL := Lib.hid (Bl.setRow (g := w.heap.size) BX.out (Nat.le_refl _) #[.int .i64 2, .string (Nib.bs q), .string ⟨#[]⟩, .string what, .string ⟨#[]⟩, .string ⟨#[]⟩, .string ⟨#[]⟩, .string ⟨#[]⟩, .string ⟨#[]⟩, .string ⟨#[]⟩, .string ⟨#[]⟩, .string ⟨#[]⟩, .string ⟨#[]⟩, .string ⟨#[]⟩, .string ⟨#[]⟩, .string ⟨#[]⟩, .string ⟨#[]⟩, .string ⟨#[]⟩, .string ⟨#[]⟩]).1
        go_wp2_with (first
          | (refine wpList_load_row rfl 51 (.tmp 13) rfl w2.heap.size rfl 51 #[.int .i64 2, .string (Nib.bs q), .string ⟨#[]⟩, .string what, .string ⟨#[]⟩, .string ⟨#[]⟩, .string ⟨#[]⟩, .string ⟨#[]⟩, .string ⟨#[]⟩, .string ⟨#[]⟩, .string ⟨#[]⟩, .string ⟨#[]⟩, .string ⟨#[]⟩, .string ⟨#[]⟩, .string ⟨#[]⟩, .string ⟨#[]⟩, .string ⟨#[]⟩, .string ⟨#[]⟩, .string ⟨#[]⟩] (0, 0) _ KX.out Tryz.underlying51 rfl INF.out ?_)
          | (refine wpList_store_rowTo rfl 51 (.tmp 4) (.tmp 47) rfl rfl w.heap.size #[.int .i64 2, .string (Nib.bs q), .string ⟨#[]⟩, .string what, .string ⟨#[]⟩, .string ⟨#[]⟩, .string ⟨#[]⟩, .string ⟨#[]⟩, .string ⟨#[]⟩, .string ⟨#[]⟩, .string ⟨#[]⟩, .string ⟨#[]⟩, .string ⟨#[]⟩, .string ⟨#[]⟩, .string ⟨#[]⟩, .string ⟨#[]⟩, .string ⟨#[]⟩, .string ⟨#[]⟩, .string ⟨#[]⟩] rfl rfl 51 _ KN.out INF.out rfl (by simp [Value.oneCell']) ?_))
        refine bodyPost_ret (results_n2 rfl _ _ _ rfl rfl XEND.out rfl) rfl ⟨extN (Nib.bs q) what, ?_, ?_, XBEL.out⟩
        · rw [ndC_ext, HP.out]; rfl
        · intro m hm
          rw [HP.out] at hm
          cases hm
          rfl
      · have hp : pairF (some f) VT what = VT.map (fun v => leafN (Nib.bs q) v) := by unfold pairF; simp only [← HNG.out]
        have HP := Lib.hid (HOU.out.trans hp)
        clear hp HNG HOU
        go_wp2_with fail
        refine (RW.out w2 (HL.out.on B2.out (Nat.le_refl _))).mono ?_
        rintro e w3 ⟨b, rfl, hv, _, hb3⟩
        have B3 := Lib.hid (B2.out.trans (hb3.mono B2.out.size))
        have HV := Lib.hid hv
        have KB3 := Lib.hid ((show Blk w2 w.heap.size 51 #[.int .i64 0, .string ⟨#[]⟩, .string ⟨#[]⟩, .string ⟨#[]⟩, .string ⟨#[]⟩, .string ⟨#[]⟩, .string ⟨#[]⟩, .string ⟨#[]⟩, .string ⟨#[]⟩, .string ⟨#[]⟩, .string ⟨#[]⟩, .string ⟨#[]⟩, .string ⟨#[]⟩, .string ⟨#[]⟩, .string ⟨#[]⟩, .string ⟨#[]⟩, .string ⟨#[]⟩, .string ⟨#[]⟩, .string ⟨#[]⟩] from KBH.out).below hb3)
        have HBE3 := Lib.hid (fun cs => (Bl.setRow (g := w.heap.size) ⟨B3.out, B3.out.size⟩ (Nat.le_refl _) cs).1)
        have LEND : Hid (Blk (w3.setRow w.heap.size #[.int .i64 1, .string (Nib.bs q), .string b, .string ⟨#[]⟩, .string ⟨#[]⟩, .string ⟨#[]⟩, .string ⟨#[]⟩, .string ⟨#[]⟩, .string ⟨#[]⟩, .string ⟨#[]⟩, .string ⟨#[]⟩, .string ⟨#[]⟩, .string ⟨#[]⟩, .string ⟨#[]⟩, .string ⟨#[]⟩, .string ⟨#[]⟩, .string ⟨#[]⟩, .string ⟨#[]⟩, .string ⟨#[]⟩]) w.heap.size 51 #[.int .i64 1, .string (Nib.bs q), .string b, .string ⟨#[]⟩, .string ⟨#[]⟩, .string ⟨#[]⟩, .string ⟨#[]⟩, .string ⟨#[]⟩, .string ⟨#[]⟩, .string ⟨#[]⟩, .string ⟨#[]⟩, .string ⟨#[]⟩, .string ⟨#[]⟩, .string ⟨#[]⟩, .string ⟨#[]⟩, .string ⟨#[]⟩, .string ⟨#[]⟩, .string ⟨#[]⟩, .string ⟨#[]⟩]) := Lib.hid (heap_setRow _ _ _ _ _ _ KB3.out)
        clear hv hb3
        have BLF := Lib.hid (built_leaf (Nib.bs q) b)
        go_wp2_with (first | (refine wpList_buildTo rfl 51 #[(0, .const (.int .i64 1)), (1, .tmp 38), (2, .tmp 39)] rfl (some 40) rfl #[.int .i64 1, .string (Nib.bs q), .string b, .string ⟨#[]⟩, .string ⟨#[]⟩, .string ⟨#[]⟩, .string ⟨#[]⟩, .string ⟨#[]⟩, .string ⟨#[]⟩, .string ⟨#[]⟩, .string ⟨#[]⟩, .string ⟨#[]⟩, .string ⟨#[]⟩, .string ⟨#[]⟩, .string ⟨#[]⟩, .string ⟨#[]⟩, .string ⟨#[]⟩, .string ⟨#[]⟩, .string ⟨#[]⟩] BLF.out ?_) | (refine wpList_store_rowTo rfl 51 (.tmp 4) (.tmp 40) rfl rfl w.heap.size #[.int .i64 1, .string (Nib.bs q), .string b, .string ⟨#[]⟩, .string ⟨#[]⟩, .string ⟨#[]⟩, .string ⟨#[]⟩, .string ⟨#[]⟩, .string ⟨#[]⟩, .string ⟨#[]⟩, .string ⟨#[]⟩, .string ⟨#[]⟩, .string ⟨#[]⟩, .string ⟨#[]⟩, .string ⟨#[]⟩, .string ⟨#[]⟩, .string ⟨#[]⟩, .string ⟨#[]⟩, .string ⟨#[]⟩] rfl rfl 51 _ KB3.out INF.out rfl (by simp [Value.oneCell']) ?_))
        refine bodyPost_ret (results_n2 rfl _ _ _ rfl rfl LEND.out rfl) rfl ⟨leafN (Nib.bs q) b, ?_, ?_, HBE3.out _⟩
        · rw [ndC_leaf, HP.out, Option.isSome_map]; rfl
        · intro m hm
          rw [HP.out] at hm
          rcases VT with _ | v
          · cases hm
          · rw [HV.out v rfl]
            cases hm
            rfl
end Go.Proofs.YtfeonjiiijdibaaGreatDoor
namespace Go.Proofs.Nod
open Go.Proofs.Nib (bs)
def clr (r : ByteArray) : ByteArray := if r = textB e0 then e0 else r
/-- A Branch whose first k refs are read. -/
def brN (l : List ByteArray) (k : Nat) (v : ByteArray) : Nd := ⟨3, e0, v, (l.take k).map clr ++ List.replicate (16 - k) e0⟩
theorem rf_br (l : List ByteArray) (k : Nat) (v : ByteArray) (hl : l.length = 17) (hk : k ≤ 16) (i : Nat) (hi : i < 16) : rf (brN l k v) i = if i < k then clr (l.getD i e0) else e0 := by
  unfold rf brN
  simp only [List.getD_eq_getElem?_getD]
  by_cases h : i < k
  · rw [if_pos h, List.getElem?_append_left (by simp; omega), List.getElem?_map, List.getElem?_take_of_lt h, List.getElem?_eq_getElem (by omega)]
    rfl
  · rw [if_neg h, List.getElem?_append_right (by simp; omega), List.getElem?_replicate]
    split <;> rfl
theorem br_eq (l : List ByteArray) (hl : l.length = 17) : readItems l = (readText (l.getD 16 e0)).map (fun v => brN l 16 v) := by
  have h1 : readItems l = if l.length = 17 then (readText (l.getLastD e0)).map (fun v => (⟨3, e0, v, (l.take 16).map (fun r => if r = textB e0 then e0 else r)⟩ : Nd)) else none := by
    rcases l with _ | ⟨a, _ | ⟨b, _ | ⟨c, r⟩⟩⟩
    · rfl
    · rfl
    · simp at hl
    · rfl
  rw [h1, if_pos hl]
  have h2 : l.getLastD e0 = l.getD 16 e0 := by
    rw [List.getLastD_eq_getLast?, List.getLast?_eq_getElem?, hl, List.getD_eq_getElem?_getD]
  rw [h2]
  congr 1
  funext v
  unfold brN
  simp
  rfl
end Go.Proofs.Nod
namespace Go.Proofs.YtfeonjiiijdibaaGreatDoor
open Go.RowKit Go.Proofs.Nod
set_option linter.unusedVariables false
set_option linter.unusedSimpArgs false
theorem ndC_set (n n' : Nd) (k : Nat) (hk : k < 16) (x : ByteArray) (h1 : n'.kind = n.kind) (h2 : n'.path = n.path) (h3 : n'.value = n.value) (h : ∀ i, i < 16 → rf n' i = if i = k then x else rf n i) : (ndC n).setIfInBounds (3 + k) (.string x) = ndC n' := by
  unfold ndC
  rw [h1, h2, h3, h 0 (by omega), h 1 (by omega), h 2 (by omega), h 3 (by omega), h 4 (by omega), h 5 (by omega), h 6 (by omega), h 7 (by omega), h 8 (by omega), h 9 (by omega), h 10 (by omega), h 11 (by omega), h 12 (by omega), h 13 (by omega), h 14 (by omega), h 15 (by omega)]
  have : k = 0 ∨ k = 1 ∨ k = 2 ∨ k = 3 ∨ k = 4 ∨ k = 5 ∨ k = 6 ∨ k = 7 ∨ k = 8 ∨ k = 9 ∨ k = 10 ∨ k = 11 ∨ k = 12 ∨ k = 13 ∨ k = 14 ∨ k = 15 := by omega
  rcases this with rfl | rfl | rfl | rfl | rfl | rfl | rfl | rfl | rfl | rfl | rfl | rfl | rfl | rfl | rfl | rfl <;> simp
theorem ndC_ref (n : Nd) (k : Nat) (hk : k < 16) : (ndC n)[3 + k]? = some (.string (rf n k)) := by
  unfold ndC
  have : k = 0 ∨ k = 1 ∨ k = 2 ∨ k = 3 ∨ k = 4 ∨ k = 5 ∨ k = 6 ∨ k = 7 ∨ k = 8 ∨ k = 9 ∨ k = 10 ∨ k = 11 ∨ k = 12 ∨ k = 13 ∨ k = 14 ∨ k = 15 := by omega
  rcases this with rfl | rfl | rfl | rfl | rfl | rfl | rfl | rfl | rfl | rfl | rfl | rfl | rfl | rfl | rfl | rfl <;> rfl
theorem ndC_size (n : Nd) : (ndC n).size = 19 := rfl
theorem ndC_one (n : Nd) : (ndC n).all (·.oneCell') = true := by unfold ndC; simp [Value.oneCell']
theorem ndC_val (n : Nd) (b : ByteArray) : (ndC n).setIfInBounds 2 (.string b) = ndC { n with value := b } := by
  unfold ndC
  simp [rf]
theorem ndC_br0 (l : List ByteArray) (hl : l.length = 17) : ndC (brN l 0 e0) = #[.int .i64 3, .string ⟨#[]⟩, .string ⟨#[]⟩, .string ⟨#[]⟩, .string ⟨#[]⟩, .string ⟨#[]⟩, .string ⟨#[]⟩, .string ⟨#[]⟩, .string ⟨#[]⟩, .string ⟨#[]⟩, .string ⟨#[]⟩, .string ⟨#[]⟩, .string ⟨#[]⟩, .string ⟨#[]⟩, .string ⟨#[]⟩, .string ⟨#[]⟩, .string ⟨#[]⟩, .string ⟨#[]⟩, .string ⟨#[]⟩] := by
  unfold ndC
  simp only [rf_br l 0 e0 hl (by omega) 0 (by omega), rf_br l 0 e0 hl (by omega) 1 (by omega), rf_br l 0 e0 hl (by omega) 2 (by omega), rf_br l 0 e0 hl (by omega) 3 (by omega), rf_br l 0 e0 hl (by omega) 4 (by omega), rf_br l 0 e0 hl (by omega) 5 (by omega), rf_br l 0 e0 hl (by omega) 6 (by omega), rf_br l 0 e0 hl (by omega) 7 (by omega), rf_br l 0 e0 hl (by omega) 8 (by omega), rf_br l 0 e0 hl (by omega) 9 (by omega), rf_br l 0 e0 hl (by omega) 10 (by omega), rf_br l 0 e0 hl (by omega) 11 (by omega), rf_br l 0 e0 hl (by omega) 12 (by omega), rf_br l 0 e0 hl (by omega) 13 (by omega), rf_br l 0 e0 hl (by omega) 14 (by omega), rf_br l 0 e0 hl (by omega) 15 (by omega)]
  rfl
theorem built_br : Tryz.prog.built 51 [(0, .int .i64 3)] = some #[.int .i64 3, .string ⟨#[]⟩, .string ⟨#[]⟩, .string ⟨#[]⟩, .string ⟨#[]⟩, .string ⟨#[]⟩, .string ⟨#[]⟩, .string ⟨#[]⟩, .string ⟨#[]⟩, .string ⟨#[]⟩, .string ⟨#[]⟩, .string ⟨#[]⟩, .string ⟨#[]⟩, .string ⟨#[]⟩, .string ⟨#[]⟩, .string ⟨#[]⟩, .string ⟨#[]⟩, .string ⟨#[]⟩, .string ⟨#[]⟩] := by kernel_rfl
set_option maxRecDepth 100000 in
set_option maxHeartbeats 2000000 in
theorem readBranch_any (A : Option Addr) (c : Nat) (l : List ByteArray) (w : World) (hS : Strs w A l) (h17 : l.length = 17) (hls : ∀ x ∈ l, x.size ≤ 1048576) (hl : Laid2 w) :
    Calls Tryz.prog 88 #[.slice A l.length c] w (Rnd (readItems l) w) := by
  rw [br_eq l h17]
  obtain ⟨N, hN⟩ : ∃ N, N = w.heap.size := ⟨_, rfl⟩
  obtain ⟨W3, hW3⟩ : ∃ W, W = ((w.alloc (.cells #[.int .i64 0, .string ⟨#[]⟩, .string ⟨#[]⟩, .string ⟨#[]⟩, .string ⟨#[]⟩, .string ⟨#[]⟩, .string ⟨#[]⟩, .string ⟨#[]⟩, .string ⟨#[]⟩, .string ⟨#[]⟩, .string ⟨#[]⟩, .string ⟨#[]⟩, .string ⟨#[]⟩, .string ⟨#[]⟩, .string ⟨#[]⟩, .string ⟨#[]⟩, .string ⟨#[]⟩, .string ⟨#[]⟩, .string ⟨#[]⟩] 51)).alloc (.cells #[.int .i64 0, .string ⟨#[]⟩, .string ⟨#[]⟩, .string ⟨#[]⟩, .string ⟨#[]⟩, .string ⟨#[]⟩, .string ⟨#[]⟩, .string ⟨#[]⟩, .string ⟨#[]⟩, .string ⟨#[]⟩, .string ⟨#[]⟩, .string ⟨#[]⟩, .string ⟨#[]⟩, .string ⟨#[]⟩, .string ⟨#[]⟩, .string ⟨#[]⟩, .string ⟨#[]⟩, .string ⟨#[]⟩, .string ⟨#[]⟩] 51)).setRow (w.heap.size + 1) #[.int .i64 3, .string ⟨#[]⟩, .string ⟨#[]⟩, .string ⟨#[]⟩, .string ⟨#[]⟩, .string ⟨#[]⟩, .string ⟨#[]⟩, .string ⟨#[]⟩, .string ⟨#[]⟩, .string ⟨#[]⟩, .string ⟨#[]⟩, .string ⟨#[]⟩, .string ⟨#[]⟩, .string ⟨#[]⟩, .string ⟨#[]⟩, .string ⟨#[]⟩, .string ⟨#[]⟩, .string ⟨#[]⟩, .string ⟨#[]⟩] := ⟨_, rfl⟩
  have hB2 : Blk ((w.alloc (.cells #[.int .i64 0, .string ⟨#[]⟩, .string ⟨#[]⟩, .string ⟨#[]⟩, .string ⟨#[]⟩, .string ⟨#[]⟩, .string ⟨#[]⟩, .string ⟨#[]⟩, .string ⟨#[]⟩, .string ⟨#[]⟩, .string ⟨#[]⟩, .string ⟨#[]⟩, .string ⟨#[]⟩, .string ⟨#[]⟩, .string ⟨#[]⟩, .string ⟨#[]⟩, .string ⟨#[]⟩, .string ⟨#[]⟩, .string ⟨#[]⟩] 51)).alloc (.cells #[.int .i64 0, .string ⟨#[]⟩, .string ⟨#[]⟩, .string ⟨#[]⟩, .string ⟨#[]⟩, .string ⟨#[]⟩, .string ⟨#[]⟩, .string ⟨#[]⟩, .string ⟨#[]⟩, .string ⟨#[]⟩, .string ⟨#[]⟩, .string ⟨#[]⟩, .string ⟨#[]⟩, .string ⟨#[]⟩, .string ⟨#[]⟩, .string ⟨#[]⟩, .string ⟨#[]⟩, .string ⟨#[]⟩, .string ⟨#[]⟩] 51)) (w.heap.size + 1) 51 #[.int .i64 0, .string ⟨#[]⟩, .string ⟨#[]⟩, .string ⟨#[]⟩, .string ⟨#[]⟩, .string ⟨#[]⟩, .string ⟨#[]⟩, .string ⟨#[]⟩, .string ⟨#[]⟩, .string ⟨#[]⟩, .string ⟨#[]⟩, .string ⟨#[]⟩, .string ⟨#[]⟩, .string ⟨#[]⟩, .string ⟨#[]⟩, .string ⟨#[]⟩, .string ⟨#[]⟩, .string ⟨#[]⟩, .string ⟨#[]⟩] := by
    have := Blk.new (w.alloc (.cells #[.int .i64 0, .string ⟨#[]⟩, .string ⟨#[]⟩, .string ⟨#[]⟩, .string ⟨#[]⟩, .string ⟨#[]⟩, .string ⟨#[]⟩, .string ⟨#[]⟩, .string ⟨#[]⟩, .string ⟨#[]⟩, .string ⟨#[]⟩, .string ⟨#[]⟩, .string ⟨#[]⟩, .string ⟨#[]⟩, .string ⟨#[]⟩, .string ⟨#[]⟩, .string ⟨#[]⟩, .string ⟨#[]⟩, .string ⟨#[]⟩] 51)) 51 #[.int .i64 0, .string ⟨#[]⟩, .string ⟨#[]⟩, .string ⟨#[]⟩, .string ⟨#[]⟩, .string ⟨#[]⟩, .string ⟨#[]⟩, .string ⟨#[]⟩, .string ⟨#[]⟩, .string ⟨#[]⟩, .string ⟨#[]⟩, .string ⟨#[]⟩, .string ⟨#[]⟩, .string ⟨#[]⟩, .string ⟨#[]⟩, .string ⟨#[]⟩, .string ⟨#[]⟩, .string ⟨#[]⟩, .string ⟨#[]⟩]
    simpa using this
  have k1 : Blk W3 (N + 1) 51 (ndC (brN l 0 e0)) := by rw [hW3, hN, ndC_br0 l h17]; exact heap_setRow _ _ _ _ _ _ hB2
  have kb0 : Bl N w ((w.alloc (.cells #[.int .i64 0, .string ⟨#[]⟩, .string ⟨#[]⟩, .string ⟨#[]⟩, .string ⟨#[]⟩, .string ⟨#[]⟩, .string ⟨#[]⟩, .string ⟨#[]⟩, .string ⟨#[]⟩, .string ⟨#[]⟩, .string ⟨#[]⟩, .string ⟨#[]⟩, .string ⟨#[]⟩, .string ⟨#[]⟩, .string ⟨#[]⟩, .string ⟨#[]⟩, .string ⟨#[]⟩, .string ⟨#[]⟩, .string ⟨#[]⟩] 51)).alloc (.cells #[.int .i64 0, .string ⟨#[]⟩, .string ⟨#[]⟩, .string ⟨#[]⟩, .string ⟨#[]⟩, .string ⟨#[]⟩, .string ⟨#[]⟩, .string ⟨#[]⟩, .string ⟨#[]⟩, .string ⟨#[]⟩, .string ⟨#[]⟩, .string ⟨#[]⟩, .string ⟨#[]⟩, .string ⟨#[]⟩, .string ⟨#[]⟩, .string ⟨#[]⟩, .string ⟨#[]⟩, .string ⟨#[]⟩, .string ⟨#[]⟩] 51)) := by rw [hN]; exact ((Bl.start w).alloc _).alloc _
  have kb : Bl N w W3 := by rw [hW3]; exact Bl.setRow kb0 (by omega) _
  have k0 : Blk W3 N 51 #[.int .i64 0, .string ⟨#[]⟩, .string ⟨#[]⟩, .string ⟨#[]⟩, .string ⟨#[]⟩, .string ⟨#[]⟩, .string ⟨#[]⟩, .string ⟨#[]⟩, .string ⟨#[]⟩, .string ⟨#[]⟩, .string ⟨#[]⟩, .string ⟨#[]⟩, .string ⟨#[]⟩, .string ⟨#[]⟩, .string ⟨#[]⟩, .string ⟨#[]⟩, .string ⟨#[]⟩, .string ⟨#[]⟩, .string ⟨#[]⟩] := by
    have h0 : Blk ((w.alloc (.cells #[.int .i64 0, .string ⟨#[]⟩, .string ⟨#[]⟩, .string ⟨#[]⟩, .string ⟨#[]⟩, .string ⟨#[]⟩, .string ⟨#[]⟩, .string ⟨#[]⟩, .string ⟨#[]⟩, .string ⟨#[]⟩, .string ⟨#[]⟩, .string ⟨#[]⟩, .string ⟨#[]⟩, .string ⟨#[]⟩, .string ⟨#[]⟩, .string ⟨#[]⟩, .string ⟨#[]⟩, .string ⟨#[]⟩, .string ⟨#[]⟩] 51)).alloc (.cells #[.int .i64 0, .string ⟨#[]⟩, .string ⟨#[]⟩, .string ⟨#[]⟩, .string ⟨#[]⟩, .string ⟨#[]⟩, .string ⟨#[]⟩, .string ⟨#[]⟩, .string ⟨#[]⟩, .string ⟨#[]⟩, .string ⟨#[]⟩, .string ⟨#[]⟩, .string ⟨#[]⟩, .string ⟨#[]⟩, .string ⟨#[]⟩, .string ⟨#[]⟩, .string ⟨#[]⟩, .string ⟨#[]⟩, .string ⟨#[]⟩] 51)) N 51 #[.int .i64 0, .string ⟨#[]⟩, .string ⟨#[]⟩, .string ⟨#[]⟩, .string ⟨#[]⟩, .string ⟨#[]⟩, .string ⟨#[]⟩, .string ⟨#[]⟩, .string ⟨#[]⟩, .string ⟨#[]⟩, .string ⟨#[]⟩, .string ⟨#[]⟩, .string ⟨#[]⟩, .string ⟨#[]⟩, .string ⟨#[]⟩, .string ⟨#[]⟩, .string ⟨#[]⟩, .string ⟨#[]⟩, .string ⟨#[]⟩] := by rw [hN]; exact (Blk.new w _ _).alloc _
    rw [hW3]
    exact h0.far (S := fun i => i = w.heap.size + 1) ((Far.refl (fun i => i = w.heap.size + 1) _).setRow (fun _ => rfl) _) (by rw [hN]; omega)
  have al2 : ∀ (ρ : Operand → Value) (d : Option Tmp) (ty : TypeId) (ps : String) (g : Option (Nat × Bool)), (execOp ρ { dst := d, op := .alloc 51, type := ty, pos := ps, after := #[], guard := g }).run Tryz.prog (w.alloc (.cells #[.int .i64 0, .string ⟨#[]⟩, .string ⟨#[]⟩, .string ⟨#[]⟩, .string ⟨#[]⟩, .string ⟨#[]⟩, .string ⟨#[]⟩, .string ⟨#[]⟩, .string ⟨#[]⟩, .string ⟨#[]⟩, .string ⟨#[]⟩, .string ⟨#[]⟩, .string ⟨#[]⟩, .string ⟨#[]⟩, .string ⟨#[]⟩, .string ⟨#[]⟩, .string ⟨#[]⟩, .string ⟨#[]⟩, .string ⟨#[]⟩] 51)) = .ok (.value (.pointer (some ⟨w.heap.size + 1, 0, none⟩))) ((w.alloc (.cells #[.int .i64 0, .string ⟨#[]⟩, .string ⟨#[]⟩, .string ⟨#[]⟩, .string ⟨#[]⟩, .string ⟨#[]⟩, .string ⟨#[]⟩, .string ⟨#[]⟩, .string ⟨#[]⟩, .string ⟨#[]⟩, .string ⟨#[]⟩, .string ⟨#[]⟩, .string ⟨#[]⟩, .string ⟨#[]⟩, .string ⟨#[]⟩, .string ⟨#[]⟩, .string ⟨#[]⟩, .string ⟨#[]⟩, .string ⟨#[]⟩] 51)).alloc (.cells #[.int .i64 0, .string ⟨#[]⟩, .string ⟨#[]⟩, .string ⟨#[]⟩, .string ⟨#[]⟩, .string ⟨#[]⟩, .string ⟨#[]⟩, .string ⟨#[]⟩, .string ⟨#[]⟩, .string ⟨#[]⟩, .string ⟨#[]⟩, .string ⟨#[]⟩, .string ⟨#[]⟩, .string ⟨#[]⟩, .string ⟨#[]⟩, .string ⟨#[]⟩, .string ⟨#[]⟩, .string ⟨#[]⟩, .string ⟨#[]⟩] 51)) := fun ρ d ty ps g => by
    have := al_nd (w.alloc (.cells #[.int .i64 0, .string ⟨#[]⟩, .string ⟨#[]⟩, .string ⟨#[]⟩, .string ⟨#[]⟩, .string ⟨#[]⟩, .string ⟨#[]⟩, .string ⟨#[]⟩, .string ⟨#[]⟩, .string ⟨#[]⟩, .string ⟨#[]⟩, .string ⟨#[]⟩, .string ⟨#[]⟩, .string ⟨#[]⟩, .string ⟨#[]⟩, .string ⟨#[]⟩, .string ⟨#[]⟩, .string ⟨#[]⟩, .string ⟨#[]⟩] 51)) ρ d ty ps g
    rw [show (w.alloc (.cells #[.int .i64 0, .string ⟨#[]⟩, .string ⟨#[]⟩, .string ⟨#[]⟩, .string ⟨#[]⟩, .string ⟨#[]⟩, .string ⟨#[]⟩, .string ⟨#[]⟩, .string ⟨#[]⟩, .string ⟨#[]⟩, .string ⟨#[]⟩, .string ⟨#[]⟩, .string ⟨#[]⟩, .string ⟨#[]⟩, .string ⟨#[]⟩, .string ⟨#[]⟩, .string ⟨#[]⟩, .string ⟨#[]⟩, .string ⟨#[]⟩] 51)).heap.size = w.heap.size + 1 by simp] at this
    exact this
  obtain ⟨T0, hT0⟩ : ∃ T, T = textB e0 := ⟨_, rfl⟩
  have TX : Hid (∀ W, Calls Tryz.prog 73 #[.string ⟨#[]⟩] W fun e w' => e = .returned (.string T0) ∧ Below W.heap.size W w') := Lib.hid (fun W => by rw [hT0]; exact text_any e0 W (by simp [e0, ByteArray.size]))
  have HT0 := Lib.hid hT0
  have HW3 := Lib.hid hW3
  have HN := Lib.hid hN
  have K1 := Lib.hid k1
  have K0 := Lib.hid k0
  have KB := Lib.hid kb
  have AL2 := Lib.hid al2
  have AL := Lib.hid al_nd
  have BBR := Lib.hid built_br
  have HS := Lib.hid hS
  have HLS := Lib.hid hls
  have HL := Lib.hid hl
  have HB2 := Lib.hid hB2
  have H17 := Lib.hid h17
  have INF : Hid ((Tryz.prog.info? 51).map (·.size) = some (#[.int .i64 0, .string ⟨#[]⟩, .string ⟨#[]⟩, .string ⟨#[]⟩, .string ⟨#[]⟩, .string ⟨#[]⟩, .string ⟨#[]⟩, .string ⟨#[]⟩, .string ⟨#[]⟩, .string ⟨#[]⟩, .string ⟨#[]⟩, .string ⟨#[]⟩, .string ⟨#[]⟩, .string ⟨#[]⟩, .string ⟨#[]⟩, .string ⟨#[]⟩, .string ⟨#[]⟩, .string ⟨#[]⟩, .string ⟨#[]⟩] : Array Value).size) := Lib.hid (by kernel_rfl)
  have hlen : (l.length : Int) = 17 := by omega
  have HLEN := Lib.hid hlen
  obtain ⟨OUT, hOUT⟩ : ∃ o, o = (readText (l.getD 16 e0)).map (fun v => brN l 16 v) := ⟨_, rfl⟩
  rw [← hOUT]
  have HOUT := Lib.hid hOUT
  clear hT0 hW3 hN k1 k0 kb kb0 al2 hS hls hl hB2 hlen hOUT h17
  go_enter Tryz.func88, Tryz.ntmps88
  go_upto_region 2 with (first
    | (refine Great.wpList_allocTo rfl (some 2) rfl (.pointer (some ⟨w.heap.size, 0, none⟩)) (.cells #[.int .i64 0, .string ⟨#[]⟩, .string ⟨#[]⟩, .string ⟨#[]⟩, .string ⟨#[]⟩, .string ⟨#[]⟩, .string ⟨#[]⟩, .string ⟨#[]⟩, .string ⟨#[]⟩, .string ⟨#[]⟩, .string ⟨#[]⟩, .string ⟨#[]⟩, .string ⟨#[]⟩, .string ⟨#[]⟩, .string ⟨#[]⟩, .string ⟨#[]⟩, .string ⟨#[]⟩, .string ⟨#[]⟩, .string ⟨#[]⟩] 51) (AL.out w _ _ _ _ _) ?_)
    | (refine wpList_buildTo rfl 51 #[(0, .const (.int .i64 3))] rfl (some 8) rfl #[.int .i64 3, .string ⟨#[]⟩, .string ⟨#[]⟩, .string ⟨#[]⟩, .string ⟨#[]⟩, .string ⟨#[]⟩, .string ⟨#[]⟩, .string ⟨#[]⟩, .string ⟨#[]⟩, .string ⟨#[]⟩, .string ⟨#[]⟩, .string ⟨#[]⟩, .string ⟨#[]⟩, .string ⟨#[]⟩, .string ⟨#[]⟩, .string ⟨#[]⟩, .string ⟨#[]⟩, .string ⟨#[]⟩, .string ⟨#[]⟩] BBR.out ?_)
    | (refine Great.wpList_allocTo rfl (some 4) rfl (.pointer (some ⟨w.heap.size + 1, 0, none⟩)) (.cells #[.int .i64 0, .string ⟨#[]⟩, .string ⟨#[]⟩, .string ⟨#[]⟩, .string ⟨#[]⟩, .string ⟨#[]⟩, .string ⟨#[]⟩, .string ⟨#[]⟩, .string ⟨#[]⟩, .string ⟨#[]⟩, .string ⟨#[]⟩, .string ⟨#[]⟩, .string ⟨#[]⟩, .string ⟨#[]⟩, .string ⟨#[]⟩, .string ⟨#[]⟩, .string ⟨#[]⟩, .string ⟨#[]⟩, .string ⟨#[]⟩] 51) (AL2.out _ _ _ _ _) ?_)
    | (refine wpList_store_rowTo rfl 51 (.tmp 4) (.tmp 8) rfl rfl (w.heap.size + 1) #[.int .i64 3, .string ⟨#[]⟩, .string ⟨#[]⟩, .string ⟨#[]⟩, .string ⟨#[]⟩, .string ⟨#[]⟩, .string ⟨#[]⟩, .string ⟨#[]⟩, .string ⟨#[]⟩, .string ⟨#[]⟩, .string ⟨#[]⟩, .string ⟨#[]⟩, .string ⟨#[]⟩, .string ⟨#[]⟩, .string ⟨#[]⟩, .string ⟨#[]⟩, .string ⟨#[]⟩, .string ⟨#[]⟩, .string ⟨#[]⟩] rfl rfl 51 _ HB2.out INF.out rfl (by simp [Value.oneCell']) ?_))
  rw [← HW3.out, ← HN.out]
  go_wp2_with fail
  go_loopw [5, 9] (fun _ vi wr => ∃ k : Nat, vi = .int .i64 (k : Int) ∧ k ≤ 16 ∧ Hid (Blk wr (N + 1) 51 (ndC (brN l k e0))) ∧ Hid (Blk wr N 51 #[.int .i64 0, .string ⟨#[]⟩, .string ⟨#[]⟩, .string ⟨#[]⟩, .string ⟨#[]⟩, .string ⟨#[]⟩, .string ⟨#[]⟩, .string ⟨#[]⟩, .string ⟨#[]⟩, .string ⟨#[]⟩, .string ⟨#[]⟩, .string ⟨#[]⟩, .string ⟨#[]⟩, .string ⟨#[]⟩, .string ⟨#[]⟩, .string ⟨#[]⟩, .string ⟨#[]⟩, .string ⟨#[]⟩, .string ⟨#[]⟩]) ∧ Hid (Bl N w wr)) (fun _ vi _ => 16 - (intOf vi).toNat)
  case atStart => exact ⟨0, rfl, by omega, K1, K0, KB⟩
  case round =>
    obtain ⟨k, rfl, hk, HK1, HK0, HKB⟩ := hrel
    by_cases hlt : k < 16
    · have hkl : k < l.length := by have := H17.out; omega
      obtain ⟨b, o, rfl, hbl, d0⟩ := (HS.out.below (by rw [← HN.out]; exact HKB.out.1 : Below w.heap.size w wr)).at_ k hkl
      obtain ⟨X, hX⟩ : ∃ X, X = l[k] := ⟨_, rfl⟩
      rw [← hX] at d0
      have HX := Lib.hid (show l.getD k e0 = X by rw [hX, List.getD_eq_getElem?_getD, List.getElem?_eq_getElem hkl]; rfl)
      have i1 : (k : Int) < 16 := by omega
      have i2 : (k : Int) < (l.length : Int) := by omega
      have i3 : (0 : Int) ≤ (k : Int) := by omega
      have wk : IntKind.i64.wrap ((k : Int) + 1) = (k : Int) + 1 := IntWalk.i64_in _ (by omega)
      have RFS := Lib.hid (fun i (hi : i < 16) => (rf_br l (k + 1) e0 H17.out (by omega) i hi))
      have RFK := Lib.hid (fun i (hi : i < 16) => (rf_br l k e0 H17.out (by omega) i hi))
      have ST : Hid (∀ W, Below wr.heap.size wr W → W.cell? ⟨b, o + k, none⟩ = some (.string X)) := Lib.hid (fun W hW => (hW.cell (p := ⟨b, _, none⟩) hbl).trans d0)
      have E0 : Hid (Below wr.heap.size wr wr.drew) := Lib.hid (Below.refl _ _).drew
      clear hX
      by_cases hx : X = T0
      · have be : (X.toList == T0.toList) = true := by rw [bytes_eq]; simp [hx]
        have be2 : (X.toList != T0.toList) = false := by rw [bne, be]; rfl
        have HC := Lib.hid (show clr X = e0 by unfold clr; rw [if_pos (hx.trans HT0.out)])
        clear hx
        go_wp2_with fail
        go_region_held3 (fun W => W.cell? ⟨b, o + k, none⟩ = some (.string X)) (first | exact ST.out _ E0.out | exact ST.out _ B5.out)
          (first
            | (go_at_call 73; refine (TX.out _).mono ?_; rintro e w5 ⟨rfl, hb5⟩; have B5 := Lib.hid (E0.out.trans (hb5.mono E0.out.size)); clear hb5))
        all_goals
          have K1n := Lib.hid (HK1.out.below B5.out)
          have K0n := Lib.hid (HK0.out.below B5.out)
          have KBn := Lib.hid (HKB.out.call B5.out)
          go_wp2_with fail
          refine ⟨⟨k + 1, by go_num, by omega, Lib.hid ?_, K0n, KBn⟩, by simp [intOf]; omega⟩
          have hs := ndC_set (brN l k e0) (brN l (k + 1) e0) k hlt e0 rfl rfl rfl (fun i hi => by
            rw [RFS.out i hi, RFK.out i hi]
            by_cases h1 : i = k
            · subst h1; rw [if_pos (by omega), if_pos rfl, HX.out, HC.out]
            · rw [if_neg h1]
              by_cases h2 : i < k
              · rw [if_pos (by omega), if_pos h2]
              · rw [if_neg (by omega), if_neg h2])
          have hr := ndC_ref (brN l k e0) k hlt
          rw [RFK.out k hlt, if_neg (by omega)] at hr
          rw [← hs]
          have hsame : (ndC (brN l k e0)).setIfInBounds (3 + k) (.string e0) = ndC (brN l k e0) := by
            apply Array.ext_getElem?
            intro j
            rw [Array.getElem?_setIfInBounds]
            split
            · next e => subst e; rw [hr, ndC_size]; simp; omega
            · rfl
          rw [hsame]
          exact K1n.out
      · have be : (X.toList == T0.toList) = false := by rw [bytes_eq]; simp [hx]
        have be2 : (X.toList != T0.toList) = true := by rw [bne, be]; rfl
        have HC := Lib.hid (show clr X = X by unfold clr; rw [if_neg (fun h => hx (h.trans HT0.out.symm))])
        clear hx
        go_wp2_with fail
        go_region_held3 (fun W => W.cell? ⟨b, o + k, none⟩ = some (.string X)) (first | exact ST.out _ E0.out | exact ST.out _ B5.out)
          (first
            | (go_at_call 73; refine (TX.out _).mono ?_; rintro e w5 ⟨rfl, hb5⟩; have B5 := Lib.hid (E0.out.trans (hb5.mono E0.out.size)); clear hb5))
        all_goals
          have K1n := Lib.hid (HK1.out.below B5.out)
          have K0n := Lib.hid (HK0.out.below B5.out)
          have KBn := Lib.hid (HKB.out.call B5.out)
          have d5 := ST.out _ B5.out
          have c5 : w5.cell? ⟨N + 1, 3 + k, none⟩ = some (.string (rf (brN l k e0) k)) := by rw [K1n.out.cell]; exact ndC_ref _ k hlt
          have f5 := K1n.out.frozen (3 + k)
          go_wp2_with fail
          refine ⟨⟨k + 1, by go_num, by omega, Lib.hid ?_, Lib.hid (K0n.out.other (p := ⟨N + 1, 3 + k, none⟩) (by simp) _), Lib.hid (KBn.out.setCell (p := ⟨N + 1, 3 + k, none⟩) (by simp) _)⟩, by simp [intOf]; omega⟩
          have hs := ndC_set (brN l k e0) (brN l (k + 1) e0) k hlt X rfl rfl rfl (fun i hi => by
            rw [RFS.out i hi, RFK.out i hi]
            by_cases h1 : i = k
            · subst h1; rw [if_pos (by omega), if_pos rfl, HX.out, HC.out]
            · rw [if_neg h1]
              by_cases h2 : i < k
              · rw [if_pos (by omega), if_pos h2]
              · rw [if_neg (by omega), if_neg h2])
          rw [← hs]
          exact K1n.out.set (3 + k) (.string X)
    · obtain rfl : k = 16 := by omega
      have hkl : 16 < l.length := by have := H17.out; omega
      obtain ⟨b, o, rfl, hbl, d0⟩ := (HS.out.below (by rw [← HN.out]; exact HKB.out.1 : Below w.heap.size w wr)).at_ 16 hkl
      obtain ⟨X, hX⟩ : ∃ X, X = l[16] := ⟨_, rfl⟩
      rw [← hX] at d0
      have hX2 : l.getD 16 e0 = X := by rw [hX, List.getD_eq_getElem?_getD, List.getElem?_eq_getElem hkl]; rfl
      have hXs : X.size ≤ 1048576 := HLS.out X (by rw [hX]; exact List.getElem_mem _)
      have i1 : (16 : Int) < (l.length : Int) := by omega
      have rt := readText_any X wr (by omega) (HL.out.on (by rw [← HN.out]; exact HKB.out.1 : Below w.heap.size w wr) (Nat.le_refl _))
      unfold Rdt at rt
      obtain ⟨VT, hVT⟩ : ∃ o, o = readText X := ⟨_, rfl⟩
      rw [← hVT] at rt
      have HO := Lib.hid (show OUT = VT.map (fun v => brN l 16 v) by rw [HOUT.out, hX2, hVT])
      have RT := Lib.hid rt
      clear rt hX hX2 hXs hVT
      go_wp2_with fail
      refine RT.out.mono ?_
      rintro e w5 ⟨v, rfl, hv, _, hb5⟩
      have HV := Lib.hid hv
      have K1n := Lib.hid (HK1.out.below hb5)
      have K0n := Lib.hid (HK0.out.below hb5)
      have KBn := Lib.hid (HKB.out.call hb5)
      have c5 : w5.cell? ⟨N + 1, 2, none⟩ = some (.string e0) := by rw [K1n.out.cell]; rfl
      have f5 := K1n.out.frozen 2
      have K1m := Lib.hid (show Blk (w5.setCell ⟨N + 1, 2, none⟩ (.string v)) (N + 1) 51 (ndC (brN l 16 v)) by
        have := K1n.out.set 2 (.string v)
        rw [ndC_val] at this
        exact this)
      have K0m := Lib.hid (K0n.out.other (p := ⟨N + 1, 2, none⟩) (by simp) (.string v))
      have KBm := Lib.hid (KBn.out.setCell (p := ⟨N + 1, 2, none⟩) (by simp) (.string v))
      clear hv hb5 d0
      go_upto_region 10 with (fail)
      generalize w5.setCell ⟨N + 1, 2, none⟩ (.string v) = w6 at *
      obtain ⟨CS, hCS⟩ : ∃ cs, cs = ndC (brN l 16 v) := ⟨_, rfl⟩
      rw [← hCS] at K1m
      have HSZ := Lib.hid (show CS.size = 19 by rw [hCS]; rfl)
      have HON := Lib.hid (show CS.all (·.oneCell') = true by rw [hCS]; exact ndC_one _)
      have INF2 := Lib.hid (show (Tryz.prog.info? 51).map (·.size) = some CS.size by rw [HSZ.out]; exact INF.out)
      have HOLD := Lib.hid (show (#[.int .i64 0, .string ⟨#[]⟩, .string ⟨#[]⟩, .string ⟨#[]⟩, .string ⟨#[]⟩, .string ⟨#[]⟩, .string ⟨#[]⟩, .string ⟨#[]⟩, .string ⟨#[]⟩, .string ⟨#[]⟩, .string ⟨#[]⟩, .string ⟨#[]⟩, .string ⟨#[]⟩, .string ⟨#[]⟩, .string ⟨#[]⟩, .string ⟨#[]⟩, .string ⟨#[]⟩, .string ⟨#[]⟩, .string ⟨#[]⟩] : Array Value).size = CS.size by rw [HSZ.out]; rfl)
      have HCS := Lib.hid hCS
      have XEND : Hid (Blk (w6.setRow N CS) N 51 CS) := Lib.hid (heap_setRow _ _ _ _ _ _ K0m.out)
      have XBEL := Lib.hid (Bl.setRow (g := N) KBm.out (Nat.le_refl _) CS).1
      clear c5 f5 hCS
      go_wp2_with (first
        | (refine wpList_load_row rfl 51 (.tmp 4) rfl (N + 1) rfl 51 CS (0, 0) _ K1m.out Tryz.underlying51 rfl INF2.out ?_)
        | (refine wpList_store_rowTo rfl 51 (.tmp 2) (.tmp 35) rfl rfl N CS rfl rfl 51 _ K0m.out INF2.out HOLD.out HON.out ?_))
      refine bodyPost_ret (results_n2 rfl _ _ _ rfl rfl XEND.out HSZ.out) rfl ⟨brN l 16 v, ?_, ?_, by rw [← HN.out]; exact XBEL.out⟩
      · rw [← HCS.out, HO.out, Option.isSome_map]; rfl
      · intro m hm
        rw [HO.out] at hm
        rcases VT with _ | v'
        · cases hm
        · rw [HV.out v' rfl]
          cases hm
          rfl
end Go.Proofs.YtfeonjiiijdibaaGreatDoor
namespace Go.Proofs.YtfeonjiiijdibaaGreatDoor
open Go.RowKit Go.Proofs.Nod
set_option linter.unusedVariables false
set_option linter.unusedSimpArgs false
/-- All items of bytes, if nothing is wrong. -/
def itemsB (s : ByteArray) : Option (List ByteArray) := if (eachF s s.size 0).all (fun x => x.2.isNone) then some ((eachF s s.size 0).map (·.1)) else none
theorem extract_le (s : ByteArray) (i j : Nat) : (s.extract i j).size ≤ s.size := by simp; omega
theorem each_size (s : ByteArray) : ∀ (m k : Nat), ∀ x ∈ eachF s m k, x.1.size ≤ s.size
  | 0, _, x, hx => by simp [eachF] at hx
  | m + 1, k, x, hx => by
    rw [eachF] at hx
    split at hx
    · split at hx
      · obtain rfl := List.mem_singleton.1 hx
        exact Nat.zero_le _
      · rcases List.mem_cons.1 hx with rfl | hx
        · exact extract_le _ _ _
        · exact each_size s m _ x hx
    · cases hx
theorem items_val (s : ByteArray) (w : World) (hs : s.size ≤ 1048576) (hl : Laid2 w) :
    Calls Tryz.prog 86 #[.string s] w fun e w' => Below w.heap.size w w' ∧
      ((itemsB s = none ∧ e = .returned (.tuple #[.slice none 0 0, .int .i64 2])) ∨
       ∃ (l : List ByteArray) (A : Option Addr) (c : Nat), itemsB s = some l ∧ (∀ x ∈ l, x.size ≤ s.size) ∧ e = .returned (.tuple #[.slice A l.length c, .int .i64 0]) ∧ Strs w' A l ∧ ∀ b o, A = some ⟨b, o, none⟩ → w.heap.size ≤ b) := by
  refine (items_any s w (by omega) hl).mono ?_
  rintro e w' ⟨hb, h⟩
  refine ⟨hb, ?_⟩
  rcases h with ⟨hn, he⟩ | ⟨hf, v, he, ho⟩
  · refine .inl ⟨?_, he⟩
    unfold itemsB
    rw [if_neg]
    intro h
    apply hn
    intro x hx
    have := List.all_eq_true.1 h x hx
    simpa using this
  · have hi : itemsB s = some ((eachF s s.size 0).map (·.1)) := by
      unfold itemsB
      rw [if_pos]
      exact List.all_eq_true.2 (fun x hx => by rw [hf x hx]; rfl)
    have hst : strs (eachF s s.size 0) = ((eachF s s.size 0).map (·.1)).map Value.string := by unfold strs; rw [List.map_map]; rfl
    rw [hst] at ho
    have hlen : (eachF s s.size 0).length = ((eachF s s.size 0).map (·.1)).length := by rw [List.length_map]
    rw [hlen] at ho
    obtain ⟨A, c, hv, _, hS⟩ := Strs.of_own ho
    refine .inr ⟨_, A, c, hi, ?_, by rw [he, hv], hS, fun b o hA => (ho.lt b (by rw [hv, hA]; rfl)).1⟩
    intro x hx
    obtain ⟨y, hy, rfl⟩ := List.mem_map.1 hx
    exact each_size s _ _ y hy
/-- A whole row is stored, as one step of a region that draws. -/
theorem step_store_row {ops : Array Oper} {o : Oper} {a : Act} {w : World} {K : Act → World → Prop} {Q : Exit → Act → World → Prop} {X : Prop} (hgd : o.guard = none) (ty : TypeId) (x y : Operand) (ho : o.op = .store ty x y)
    (g : Nat) (cells : Array Value) (hx : a.eval x = .pointer (some ⟨g, 0, none⟩)) (hy : a.eval y = .agg cells)
    (t : TypeId) (old : Array Value) (hg : w.heap[g]? = some (.cells old t (0, 0))) (hi : (Tryz.prog.info? ty).map (·.size) = some cells.size)
    (hold : old.size = cells.size) (h1 : cells.all (·.oneCell') = true)
    (h : K (a.put o.dst undef) (w.setRow g cells)) : if Region.wanted o (yielded ops a.tmps) = true then Oper.wp Tryz.prog o a w K Q else X := by
  have hw : Region.wanted o (yielded ops a.tmps) = true := by simp [Region.wanted, hgd]
  rw [if_pos hw]
  exact wp_store_row ty x y ho g cells hx hy t old hg hi hold h1 h
theorem store_cells_row {w : World} {g : Nat} {T : TypeId} {old cells : Array Value} (hg : Blk w g T old) (ho : old.size = cells.size) (h1 : cells.all (·.oneCell') = true) :
    (storeCells ⟨g, 0, none⟩ cells.toList).run Tryz.prog w = .ok () (w.setRow g cells) := by
  have := run_storeCells_from (P := Tryz.prog) g T cells.toList 0 old w hg (by simp; omega) (fun v hv => (Array.all_eq_true_iff_forall_mem.1 h1) v (by simpa using hv))
  simpa using this
set_option maxRecDepth 100000 in
set_option maxHeartbeats 2000000 in
theorem read_any (s : ByteArray) (w : World) (hs : s.size ≤ 1048576) (hl : Laid2 w) :
    Calls Tryz.prog 60 #[.string s] w (Rnd (readB itemsB s) w) := by
  obtain ⟨N, hN⟩ : ∃ N, N = w.heap.size := ⟨_, rfl⟩
  obtain ⟨W1, hW1⟩ : ∃ W, W = w.alloc (.cells #[.int .i64 0, .string ⟨#[]⟩, .string ⟨#[]⟩, .string ⟨#[]⟩, .string ⟨#[]⟩, .string ⟨#[]⟩, .string ⟨#[]⟩, .string ⟨#[]⟩, .string ⟨#[]⟩, .string ⟨#[]⟩, .string ⟨#[]⟩, .string ⟨#[]⟩, .string ⟨#[]⟩, .string ⟨#[]⟩, .string ⟨#[]⟩, .string ⟨#[]⟩, .string ⟨#[]⟩, .string ⟨#[]⟩, .string ⟨#[]⟩] 51) := ⟨_, rfl⟩
  have k0 : Blk W1 N 51 #[.int .i64 0, .string ⟨#[]⟩, .string ⟨#[]⟩, .string ⟨#[]⟩, .string ⟨#[]⟩, .string ⟨#[]⟩, .string ⟨#[]⟩, .string ⟨#[]⟩, .string ⟨#[]⟩, .string ⟨#[]⟩, .string ⟨#[]⟩, .string ⟨#[]⟩, .string ⟨#[]⟩, .string ⟨#[]⟩, .string ⟨#[]⟩, .string ⟨#[]⟩, .string ⟨#[]⟩, .string ⟨#[]⟩, .string ⟨#[]⟩] := by rw [hW1, hN]; exact Blk.new w _ _
  have kb : Bl N w W1 := by rw [hW1, hN]; exact (Bl.start w).alloc _
  have sp := split_any s W1 (by omega) (hl.on (by rw [← hN]; exact kb.1 : Below w.heap.size w W1) (Nat.le_refl _))
  obtain ⟨OUT, hOUT⟩ : ∃ o, o = readB itemsB s := ⟨_, rfl⟩
  rw [← hOUT]
  have INF : Hid ((Tryz.prog.info? 51).map (·.size) = some (#[.int .i64 0, .string ⟨#[]⟩, .string ⟨#[]⟩, .string ⟨#[]⟩, .string ⟨#[]⟩, .string ⟨#[]⟩, .string ⟨#[]⟩, .string ⟨#[]⟩, .string ⟨#[]⟩, .string ⟨#[]⟩, .string ⟨#[]⟩, .string ⟨#[]⟩, .string ⟨#[]⟩, .string ⟨#[]⟩, .string ⟨#[]⟩, .string ⟨#[]⟩, .string ⟨#[]⟩, .string ⟨#[]⟩, .string ⟨#[]⟩] : Array Value).size) := Lib.hid (by kernel_rfl)
  have ONE : Hid ((#[.int .i64 0, .string ⟨#[]⟩, .string ⟨#[]⟩, .string ⟨#[]⟩, .string ⟨#[]⟩, .string ⟨#[]⟩, .string ⟨#[]⟩, .string ⟨#[]⟩, .string ⟨#[]⟩, .string ⟨#[]⟩, .string ⟨#[]⟩, .string ⟨#[]⟩, .string ⟨#[]⟩, .string ⟨#[]⟩, .string ⟨#[]⟩, .string ⟨#[]⟩, .string ⟨#[]⟩, .string ⟨#[]⟩, .string ⟨#[]⟩] : Array Value).all (·.oneCell') = true) := Lib.hid (by kernel_rfl)
  have AL := Lib.hid al_nd
  have BZ := Lib.hid built_zero
  have HW1 := Lib.hid hW1
  have HN := Lib.hid hN
  have K0 := Lib.hid k0
  have KB := Lib.hid kb
  have HL := Lib.hid hl
  have HOUT := Lib.hid hOUT
  clear hN hW1 k0 kb hl hOUT
  rcases hT : Rlp.first s.data.toList with er | ⟨lst, f, n⟩
  · simp only [hT, splitVal] at sp
    have SP := Lib.hid sp
    have HO := Lib.hid (show OUT = none by rw [HOUT.out]; unfold readB splitB; rw [hT])
    clear sp hT HOUT
    go_enter Tryz.func60, Tryz.ntmps60
    go_wp2_with (refine Great.wpList_allocTo rfl (some 2) rfl (.pointer (some ⟨w.heap.size, 0, none⟩)) (.cells #[.int .i64 0, .string ⟨#[]⟩, .string ⟨#[]⟩, .string ⟨#[]⟩, .string ⟨#[]⟩, .string ⟨#[]⟩, .string ⟨#[]⟩, .string ⟨#[]⟩, .string ⟨#[]⟩, .string ⟨#[]⟩, .string ⟨#[]⟩, .string ⟨#[]⟩, .string ⟨#[]⟩, .string ⟨#[]⟩, .string ⟨#[]⟩, .string ⟨#[]⟩, .string ⟨#[]⟩, .string ⟨#[]⟩, .string ⟨#[]⟩] 51) (AL.out w _ _ _ _ _) ?_)
    rw [← HW1.out, ← HN.out]
    refine SP.out.mono ?_
    rintro e w2 ⟨rfl, hb2⟩
    have K2 := Lib.hid (K0.out.below hb2)
    have KB2 := Lib.hid (KB.out.call hb2)
    have ZE : Hid (Blk (w2.setRow N #[.int .i64 0, .string ⟨#[]⟩, .string ⟨#[]⟩, .string ⟨#[]⟩, .string ⟨#[]⟩, .string ⟨#[]⟩, .string ⟨#[]⟩, .string ⟨#[]⟩, .string ⟨#[]⟩, .string ⟨#[]⟩, .string ⟨#[]⟩, .string ⟨#[]⟩, .string ⟨#[]⟩, .string ⟨#[]⟩, .string ⟨#[]⟩, .string ⟨#[]⟩, .string ⟨#[]⟩, .string ⟨#[]⟩, .string ⟨#[]⟩]) N 51 #[.int .i64 0, .string ⟨#[]⟩, .string ⟨#[]⟩, .string ⟨#[]⟩, .string ⟨#[]⟩, .string ⟨#[]⟩, .string ⟨#[]⟩, .string ⟨#[]⟩, .string ⟨#[]⟩, .string ⟨#[]⟩, .string ⟨#[]⟩, .string ⟨#[]⟩, .string ⟨#[]⟩, .string ⟨#[]⟩, .string ⟨#[]⟩, .string ⟨#[]⟩, .string ⟨#[]⟩, .string ⟨#[]⟩, .string ⟨#[]⟩]) := Lib.hid (heap_setRow _ _ _ _ _ _ K2.out)
    clear hb2
    go_wp2_with (first
      | (refine wpList_buildTo rfl 51 #[] rfl (some 22) rfl #[.int .i64 0, .string ⟨#[]⟩, .string ⟨#[]⟩, .string ⟨#[]⟩, .string ⟨#[]⟩, .string ⟨#[]⟩, .string ⟨#[]⟩, .string ⟨#[]⟩, .string ⟨#[]⟩, .string ⟨#[]⟩, .string ⟨#[]⟩, .string ⟨#[]⟩, .string ⟨#[]⟩, .string ⟨#[]⟩, .string ⟨#[]⟩, .string ⟨#[]⟩, .string ⟨#[]⟩, .string ⟨#[]⟩, .string ⟨#[]⟩] BZ.out ?_)
      | (refine wpList_store_rowTo rfl 51 (.tmp 2) (.tmp 22) rfl rfl N #[.int .i64 0, .string ⟨#[]⟩, .string ⟨#[]⟩, .string ⟨#[]⟩, .string ⟨#[]⟩, .string ⟨#[]⟩, .string ⟨#[]⟩, .string ⟨#[]⟩, .string ⟨#[]⟩, .string ⟨#[]⟩, .string ⟨#[]⟩, .string ⟨#[]⟩, .string ⟨#[]⟩, .string ⟨#[]⟩, .string ⟨#[]⟩, .string ⟨#[]⟩, .string ⟨#[]⟩, .string ⟨#[]⟩, .string ⟨#[]⟩] rfl rfl 51 _ K2.out INF.out rfl ONE.out ?_))
    exact bodyPost_ret (results_n2 rfl _ _ _ rfl rfl ZE.out rfl) rfl ⟨zeroN, by rw [ndC_zero, HO.out]; rfl, (fun m h => by rw [HO.out] at h; cases h), by rw [← HN.out]; exact (Bl.setRow (g := N) KB2.out (Nat.le_refl _) _).1⟩
  · have hX : (s.extract f (f + n)).size ≤ 1048576 := Nat.le_trans (extract_le s f (f + n)) hs
    simp only [hT, splitVal] at sp
    obtain ⟨X, hXe⟩ : ∃ X, X = s.extract f (f + n) := ⟨_, rfl⟩
    obtain ⟨Y, hYe⟩ : ∃ Y, Y = s.extract (f + n) s.size := ⟨_, rfl⟩
    rw [← hXe] at hX
    rw [← hXe, ← hYe] at sp
    have SP := Lib.hid sp
    have ho : OUT = if lst = true then (itemsB X).bind readItems else some zeroN := by
      rw [HOUT.out, hXe]
      unfold readB splitB
      rw [hT]
      cases lst
      · rfl
      · rw [if_pos rfl]
        simp only
        cases itemsB (s.extract f (f + n)) <;> rfl
    have HO := Lib.hid ho
    clear ho
    have IT := Lib.hid (fun W (h : Laid2 W) => items_val X W hX h)
    clear sp hT HOUT hXe hYe
    rcases lst with _ | _
    · go_enter Tryz.func60, Tryz.ntmps60
      go_wp2_with (refine Great.wpList_allocTo rfl (some 2) rfl (.pointer (some ⟨w.heap.size, 0, none⟩)) (.cells #[.int .i64 0, .string ⟨#[]⟩, .string ⟨#[]⟩, .string ⟨#[]⟩, .string ⟨#[]⟩, .string ⟨#[]⟩, .string ⟨#[]⟩, .string ⟨#[]⟩, .string ⟨#[]⟩, .string ⟨#[]⟩, .string ⟨#[]⟩, .string ⟨#[]⟩, .string ⟨#[]⟩, .string ⟨#[]⟩, .string ⟨#[]⟩, .string ⟨#[]⟩, .string ⟨#[]⟩, .string ⟨#[]⟩, .string ⟨#[]⟩] 51) (AL.out w _ _ _ _ _) ?_)
      rw [← HW1.out, ← HN.out]
      refine SP.out.mono ?_
      rintro e w2 ⟨rfl, hb2⟩
      have K2 := Lib.hid (K0.out.below hb2)
      have KB2 := Lib.hid (KB.out.call hb2)
      have ZE : Hid (Blk (w2.setRow N #[.int .i64 0, .string ⟨#[]⟩, .string ⟨#[]⟩, .string ⟨#[]⟩, .string ⟨#[]⟩, .string ⟨#[]⟩, .string ⟨#[]⟩, .string ⟨#[]⟩, .string ⟨#[]⟩, .string ⟨#[]⟩, .string ⟨#[]⟩, .string ⟨#[]⟩, .string ⟨#[]⟩, .string ⟨#[]⟩, .string ⟨#[]⟩, .string ⟨#[]⟩, .string ⟨#[]⟩, .string ⟨#[]⟩, .string ⟨#[]⟩]) N 51 #[.int .i64 0, .string ⟨#[]⟩, .string ⟨#[]⟩, .string ⟨#[]⟩, .string ⟨#[]⟩, .string ⟨#[]⟩, .string ⟨#[]⟩, .string ⟨#[]⟩, .string ⟨#[]⟩, .string ⟨#[]⟩, .string ⟨#[]⟩, .string ⟨#[]⟩, .string ⟨#[]⟩, .string ⟨#[]⟩, .string ⟨#[]⟩, .string ⟨#[]⟩, .string ⟨#[]⟩, .string ⟨#[]⟩, .string ⟨#[]⟩]) := Lib.hid (heap_setRow _ _ _ _ _ _ K2.out)
      clear hb2
      go_wp2_with (first
        | (refine wpList_buildTo rfl 51 #[] rfl (some 22) rfl #[.int .i64 0, .string ⟨#[]⟩, .string ⟨#[]⟩, .string ⟨#[]⟩, .string ⟨#[]⟩, .string ⟨#[]⟩, .string ⟨#[]⟩, .string ⟨#[]⟩, .string ⟨#[]⟩, .string ⟨#[]⟩, .string ⟨#[]⟩, .string ⟨#[]⟩, .string ⟨#[]⟩, .string ⟨#[]⟩, .string ⟨#[]⟩, .string ⟨#[]⟩, .string ⟨#[]⟩, .string ⟨#[]⟩, .string ⟨#[]⟩] BZ.out ?_)
        | (refine wpList_store_rowTo rfl 51 (.tmp 2) (.tmp 22) rfl rfl N #[.int .i64 0, .string ⟨#[]⟩, .string ⟨#[]⟩, .string ⟨#[]⟩, .string ⟨#[]⟩, .string ⟨#[]⟩, .string ⟨#[]⟩, .string ⟨#[]⟩, .string ⟨#[]⟩, .string ⟨#[]⟩, .string ⟨#[]⟩, .string ⟨#[]⟩, .string ⟨#[]⟩, .string ⟨#[]⟩, .string ⟨#[]⟩, .string ⟨#[]⟩, .string ⟨#[]⟩, .string ⟨#[]⟩, .string ⟨#[]⟩] rfl rfl 51 _ K2.out INF.out rfl ONE.out ?_))
      exact bodyPost_ret (results_n2 rfl _ _ _ rfl rfl ZE.out rfl) rfl ⟨zeroN, by rw [ndC_zero, HO.out]; rfl, (fun m h => by rw [HO.out] at h; cases h; rfl), by rw [← HN.out]; exact (Bl.setRow (g := N) KB2.out (Nat.le_refl _) _).1⟩
    · go_enter Tryz.func60, Tryz.ntmps60
      go_wp2_with (refine Great.wpList_allocTo rfl (some 2) rfl (.pointer (some ⟨w.heap.size, 0, none⟩)) (.cells #[.int .i64 0, .string ⟨#[]⟩, .string ⟨#[]⟩, .string ⟨#[]⟩, .string ⟨#[]⟩, .string ⟨#[]⟩, .string ⟨#[]⟩, .string ⟨#[]⟩, .string ⟨#[]⟩, .string ⟨#[]⟩, .string ⟨#[]⟩, .string ⟨#[]⟩, .string ⟨#[]⟩, .string ⟨#[]⟩, .string ⟨#[]⟩, .string ⟨#[]⟩, .string ⟨#[]⟩, .string ⟨#[]⟩, .string ⟨#[]⟩] 51) (AL.out w _ _ _ _ _) ?_)
      rw [← HW1.out, ← HN.out]
      refine SP.out.mono ?_
      rintro e w2 ⟨rfl, hb2⟩
      have K2 := Lib.hid (K0.out.below hb2)
      have KB2 := Lib.hid (KB.out.call hb2)
      clear hb2
      go_wp2_with fail
      refine (IT.out w2 (HL.out.on (by rw [← HN.out]; exact KB2.out.1 : Below w.heap.size w w2) (Nat.le_refl _))).mono ?_
      rintro e w3 ⟨hb3, h3⟩
      have K3 := Lib.hid (K2.out.below hb3)
      have KB3 := Lib.hid (KB2.out.call hb3)
      have ZE3 : Hid (Blk (w3.setRow N #[.int .i64 0, .string ⟨#[]⟩, .string ⟨#[]⟩, .string ⟨#[]⟩, .string ⟨#[]⟩, .string ⟨#[]⟩, .string ⟨#[]⟩, .string ⟨#[]⟩, .string ⟨#[]⟩, .string ⟨#[]⟩, .string ⟨#[]⟩, .string ⟨#[]⟩, .string ⟨#[]⟩, .string ⟨#[]⟩, .string ⟨#[]⟩, .string ⟨#[]⟩, .string ⟨#[]⟩, .string ⟨#[]⟩, .string ⟨#[]⟩]) N 51 #[.int .i64 0, .string ⟨#[]⟩, .string ⟨#[]⟩, .string ⟨#[]⟩, .string ⟨#[]⟩, .string ⟨#[]⟩, .string ⟨#[]⟩, .string ⟨#[]⟩, .string ⟨#[]⟩, .string ⟨#[]⟩, .string ⟨#[]⟩, .string ⟨#[]⟩, .string ⟨#[]⟩, .string ⟨#[]⟩, .string ⟨#[]⟩, .string ⟨#[]⟩, .string ⟨#[]⟩, .string ⟨#[]⟩, .string ⟨#[]⟩]) := Lib.hid (heap_setRow _ _ _ _ _ _ K3.out)
      have ZB3 := Lib.hid (Bl.setRow (g := N) KB3.out (Nat.le_refl _) #[.int .i64 0, .string ⟨#[]⟩, .string ⟨#[]⟩, .string ⟨#[]⟩, .string ⟨#[]⟩, .string ⟨#[]⟩, .string ⟨#[]⟩, .string ⟨#[]⟩, .string ⟨#[]⟩, .string ⟨#[]⟩, .string ⟨#[]⟩, .string ⟨#[]⟩, .string ⟨#[]⟩, .string ⟨#[]⟩, .string ⟨#[]⟩, .string ⟨#[]⟩, .string ⟨#[]⟩, .string ⟨#[]⟩, .string ⟨#[]⟩]).1
      clear hb3
      rcases h3 with ⟨hi, rfl⟩ | ⟨l, A, c, hi, hls, rfl, hS, hbA⟩
      · have HO2 := Lib.hid (show OUT = none by rw [HO.out]; simp [hi])
        clear hi
        go_wp2_with (first
          | (refine wpList_buildTo rfl 51 #[] rfl (some 32) rfl #[.int .i64 0, .string ⟨#[]⟩, .string ⟨#[]⟩, .string ⟨#[]⟩, .string ⟨#[]⟩, .string ⟨#[]⟩, .string ⟨#[]⟩, .string ⟨#[]⟩, .string ⟨#[]⟩, .string ⟨#[]⟩, .string ⟨#[]⟩, .string ⟨#[]⟩, .string ⟨#[]⟩, .string ⟨#[]⟩, .string ⟨#[]⟩, .string ⟨#[]⟩, .string ⟨#[]⟩, .string ⟨#[]⟩, .string ⟨#[]⟩] BZ.out ?_)
          | (refine wpList_store_rowTo rfl 51 (.tmp 2) (.tmp 32) rfl rfl N #[.int .i64 0, .string ⟨#[]⟩, .string ⟨#[]⟩, .string ⟨#[]⟩, .string ⟨#[]⟩, .string ⟨#[]⟩, .string ⟨#[]⟩, .string ⟨#[]⟩, .string ⟨#[]⟩, .string ⟨#[]⟩, .string ⟨#[]⟩, .string ⟨#[]⟩, .string ⟨#[]⟩, .string ⟨#[]⟩, .string ⟨#[]⟩, .string ⟨#[]⟩, .string ⟨#[]⟩, .string ⟨#[]⟩, .string ⟨#[]⟩] rfl rfl 51 _ K3.out INF.out rfl ONE.out ?_))
        exact bodyPost_ret (results_n2 rfl _ _ _ rfl rfl ZE3.out rfl) rfl ⟨zeroN, by rw [ndC_zero, HO2.out]; rfl, (fun m h => by rw [HO2.out] at h; cases h), by rw [← HN.out]; exact ZB3.out⟩
      · have HO2 := Lib.hid (show OUT = readItems l by rw [HO.out]; simp [hi])
        have HS := Lib.hid hS
        have HLS := Lib.hid hls
        have L3 := Lib.hid (HL.out.on (by rw [← HN.out]; exact KB3.out.1 : Below w.heap.size w w3) (Nat.le_refl _))
        clear hi hS hls
        by_cases h17 : l.length = 17
        · have i1 : ((l.length : Int) == 2) = false := by simp; omega
          have i2 : ((l.length : Int) == 17) = true := by simp; omega
          have RB := Lib.hid (readBranch_any A c l w3 HS.out h17 (fun x hx => Nat.le_trans (HLS.out x hx) hX) L3.out)
          rw [← HO2.out] at RB
          clear h17
          go_wp2_with fail
          refine RB.out.mono ?_
          rintro e w4 ⟨nd, rfl, hnd, hb4⟩
          obtain ⟨CS, hCS⟩ : ∃ cs, cs = ndC nd := ⟨_, rfl⟩
          rw [← hCS]
          have HCS := Lib.hid hCS
          have HSZ := Lib.hid (show CS.size = 19 by rw [hCS]; rfl)
          have HON := Lib.hid (show CS.all (·.oneCell') = true by rw [hCS]; exact ndC_one _)
          have INF2 := Lib.hid (show (Tryz.prog.info? 51).map (·.size) = some CS.size by rw [HSZ.out]; exact INF.out)
          have HOLD := Lib.hid (show (#[.int .i64 0, .string ⟨#[]⟩, .string ⟨#[]⟩, .string ⟨#[]⟩, .string ⟨#[]⟩, .string ⟨#[]⟩, .string ⟨#[]⟩, .string ⟨#[]⟩, .string ⟨#[]⟩, .string ⟨#[]⟩, .string ⟨#[]⟩, .string ⟨#[]⟩, .string ⟨#[]⟩, .string ⟨#[]⟩, .string ⟨#[]⟩, .string ⟨#[]⟩, .string ⟨#[]⟩, .string ⟨#[]⟩, .string ⟨#[]⟩] : Array Value).size = CS.size by rw [HSZ.out]; rfl)
          have K4 := Lib.hid (K3.out.below hb4)
          have XE : Hid (Blk (w4.setRow N CS) N 51 CS) := Lib.hid (heap_setRow _ _ _ _ _ _ K4.out)
          have XB := Lib.hid (Bl.setRow (g := N) (KB3.out.call hb4) (Nat.le_refl _) CS).1
          have HND := Lib.hid hnd
          clear hCS hb4 hnd
          go_wp2_with (refine wpList_store_rowTo rfl 51 (.tmp 2) (.tmp 50) rfl rfl N CS rfl rfl 51 _ K4.out INF2.out HOLD.out HON.out ?_)
          exact bodyPost_ret (results_n2 rfl _ _ _ rfl rfl XE.out HSZ.out) rfl ⟨nd, by rw [← HCS.out]; rfl, HND.out, by rw [← HN.out]; exact XB.out⟩
        · by_cases h2 : l.length = 2
          · have hbA2 : ∀ b o, A = some ⟨b, o, none⟩ → b ≠ N := fun b o h => by have h1 := hbA b o h; have h2 := K2.out.lt; omega
            obtain ⟨p, x, rfl⟩ : ∃ p x, l = [p, x] := by
              rcases l with _ | ⟨p, _ | ⟨x, _ | ⟨z, r⟩⟩⟩
              · simp at h2
              · simp at h2
              · exact ⟨p, x, rfl⟩
              · simp at h2
            obtain ⟨b, o, rfl, hbl, d0⟩ := HS.out.at_ 0 (by simp)
            obtain ⟨b', o', he, _, d1⟩ := HS.out.at_ 1 (by simp)
            cases he
            simp only [List.getElem_cons_zero, List.getElem_cons_succ, Nat.add_zero] at d0 d1
            have hbN := hbA2 b o rfl
            have ST : Hid (∀ W, Far (fun i => i = N) w3 W → W.cell? ⟨b, o, none⟩ = some (.string p) ∧ W.cell? ⟨b, o + 1, none⟩ = some (.string x)) := Lib.hid (fun W hW =>
              ⟨(World.cell?_of_block (a := ⟨b, _, none⟩) (hW.block b hbl hbN)).trans d0, (World.cell?_of_block (a := ⟨b, _, none⟩) (hW.block b hbl hbN)).trans d1⟩)
            have E0 : Hid (Below w3.heap.size w3 w3.drew) := Lib.hid (Below.refl _ _).drew
            have F0 : Hid (Far (fun i => i = N) w3 w3.drew) := Lib.hid (Far.refl _ _).drew
            have RP : Hid (∀ W, Laid2 W → Calls Tryz.prog 87 #[.string p, .string x] W (Rnd OUT W)) := Lib.hid (fun W h => by
              rw [HO2.out]
              exact readPair_any p x W (Nat.le_trans (HLS.out p (by simp)) hX) (Nat.le_trans (HLS.out x (by simp)) hX) h)
            have L3d := Lib.hid (L3.out.on E0.out (Nat.le_refl _))
            have K3d := Lib.hid (K3.out.below E0.out)
            have KB3d := Lib.hid (KB3.out.call E0.out)
            clear h17 h2 hbA hbA2 hbN
            go_wp2_with fail
            clear d0 d1
            go_region_held3 (fun W => W.cell? ⟨b, o, none⟩ = some (.string p) ∧ W.cell? ⟨b, o + 1, none⟩ = some (.string x)) (first | exact ST.out _ F0.out | exact ST.out _ F4.out | exact ST.out _ F5.out)
              (first
                | (go_at_call 87; refine (RP.out _ L3d.out).mono ?_; rintro e w4 ⟨nd, rfl, hnd, hb4⟩; obtain ⟨CS, hCS⟩ : ∃ cs, cs = ndC nd := ⟨_, rfl⟩; rw [← hCS]; have HCS := Lib.hid hCS; have HSZ := Lib.hid (show CS.size = 19 by rw [hCS]; rfl); have HON := Lib.hid (show CS.all (·.oneCell') = true by rw [hCS]; exact ndC_one _); have INF2 := Lib.hid (show (Tryz.prog.info? 51).map (·.size) = some CS.size by rw [HSZ.out]; exact INF.out); have HOLD := Lib.hid (show (#[.int .i64 0, .string ⟨#[]⟩, .string ⟨#[]⟩, .string ⟨#[]⟩, .string ⟨#[]⟩, .string ⟨#[]⟩, .string ⟨#[]⟩, .string ⟨#[]⟩, .string ⟨#[]⟩, .string ⟨#[]⟩, .string ⟨#[]⟩, .string ⟨#[]⟩, .string ⟨#[]⟩, .string ⟨#[]⟩, .string ⟨#[]⟩, .string ⟨#[]⟩, .string ⟨#[]⟩, .string ⟨#[]⟩, .string ⟨#[]⟩] : Array Value).size = CS.size by rw [HSZ.out]; rfl); have K4 := Lib.hid (K3d.out.below hb4); have KB4 := Lib.hid (KB3d.out.call hb4); have F4 := Lib.hid (F0.out.call hb4); have F5 := Lib.hid (F4.out.setRow (g := N) (fun _ => rfl) CS); have HND := Lib.hid hnd; have sv := store_cells_row K4.out HOLD.out HON.out; clear hCS hb4 hnd)
                | (refine step_store_row rfl 51 (.tmp 2) (.tmp 44) rfl N CS rfl rfl 51 _ K4.out INF2.out HOLD.out HON.out ?_))
            all_goals
              go_wp2_with fail
              exact bodyPost_ret (results_n2 rfl _ _ _ rfl rfl (heap_setRow _ _ _ _ _ _ K4.out : Blk (w4.setRow N CS) N 51 CS) HSZ.out) rfl ⟨nd, by rw [← HCS.out]; rfl, HND.out, by rw [← HN.out]; exact (Bl.setRow (g := N) KB4.out (Nat.le_refl _) CS).1⟩
          · have i1 : ((l.length : Int) == 2) = false := by simp; omega
            have i2 : ((l.length : Int) == 17) = false := by simp; omega
            have HO3 := Lib.hid (show OUT = none by
              rw [HO2.out]
              rcases l with _ | ⟨x, _ | ⟨y, _ | ⟨z, r⟩⟩⟩
              · rfl
              · rfl
              · simp at h2
              · unfold readItems; rw [if_neg h17])
            clear h17 h2
            go_wp2_with (first
              | (refine wpList_buildTo rfl 51 #[] rfl (some 52) rfl #[.int .i64 0, .string ⟨#[]⟩, .string ⟨#[]⟩, .string ⟨#[]⟩, .string ⟨#[]⟩, .string ⟨#[]⟩, .string ⟨#[]⟩, .string ⟨#[]⟩, .string ⟨#[]⟩, .string ⟨#[]⟩, .string ⟨#[]⟩, .string ⟨#[]⟩, .string ⟨#[]⟩, .string ⟨#[]⟩, .string ⟨#[]⟩, .string ⟨#[]⟩, .string ⟨#[]⟩, .string ⟨#[]⟩, .string ⟨#[]⟩] BZ.out ?_)
              | (refine wpList_store_rowTo rfl 51 (.tmp 2) (.tmp 52) rfl rfl N #[.int .i64 0, .string ⟨#[]⟩, .string ⟨#[]⟩, .string ⟨#[]⟩, .string ⟨#[]⟩, .string ⟨#[]⟩, .string ⟨#[]⟩, .string ⟨#[]⟩, .string ⟨#[]⟩, .string ⟨#[]⟩, .string ⟨#[]⟩, .string ⟨#[]⟩, .string ⟨#[]⟩, .string ⟨#[]⟩, .string ⟨#[]⟩, .string ⟨#[]⟩, .string ⟨#[]⟩, .string ⟨#[]⟩, .string ⟨#[]⟩] rfl rfl 51 _ K3.out INF.out rfl ONE.out ?_))
            exact bodyPost_ret (results_n2 rfl _ _ _ rfl rfl ZE3.out rfl) rfl ⟨zeroN, by rw [ndC_zero, HO3.out]; rfl, (fun m h => by rw [HO3.out] at h; cases h), by rw [← HN.out]; exact ZB3.out⟩
end Go.Proofs.YtfeonjiiijdibaaGreatDoor
namespace Go.Proofs.Rlp
theorem first_list {s : List UInt8} {f n : Nat} (h : first s = .ok (true, f, n)) : 1 ≤ f := by
  rcases s with _ | ⟨c, r⟩
  · simp [first] at h
  · rw [first] at h
    by_cases h1 : c < 128
    · rw [if_pos h1] at h
      simp at h
    · rw [if_neg h1] at h
      by_cases h2 : c < 192
      · rw [if_pos h2] at h
        rcases hs : size (c :: r) (c.toNat - 128) with e | ⟨f', n'⟩
        · simp [hs] at h
        · simp only [hs] at h
          split at h <;> simp at h
      · rw [if_neg h2] at h
        rcases hs : size (c :: r) (c.toNat - 192) with e | ⟨f', n'⟩
        · simp [hs] at h
        · simp only [hs] at h
          have h3 := size_ok hs
          simp only [Except.ok.injEq, Prod.mk.injEq] at h
          obtain ⟨_, rfl, rfl⟩ := h
          omega
end Go.Proofs.Rlp
namespace Go.Proofs.YtfeonjiiijdibaaGreatDoor
open Go.RowKit Go.Proofs.Nod
theorem split_pos {s : ByteArray} {l : Bool} {b : ByteArray} (h : splitB s = some (l, b)) : 0 < s.size := by
  unfold splitB at h
  split at h
  · cases h
  · next l' f n hf =>
    have := Rlp.first_ok hf
    simp at this
    omega
theorem split_lt {s b : ByteArray} (h : splitB s = some (true, b)) : b.size < s.size := by
  unfold splitB at h
  split at h
  · cases h
  · next l' f n hf =>
    simp only [Option.some.injEq, Prod.mk.injEq] at h
    obtain ⟨rfl, rfl⟩ := h
    have h1 := Rlp.first_list hf
    have h2 := (Rlp.first_ok hf).1
    rw [extract_size s f n (by simpa using h2)]
    simp at h2
    omega
theorem items_size {b : ByteArray} {l : List ByteArray} (h : itemsB b = some l) : ∀ x ∈ l, x.size ≤ b.size := by
  unfold itemsB at h
  split at h
  · cases h
    intro x hx
    obtain ⟨y, hy, rfl⟩ := List.mem_map.1 hx
    exact each_size b _ _ y hy
  · cases h
/-- The refs of what is read are shorter than it. -/
theorem refs_lt {s : ByteArray} {n : Nd} (h : readB itemsB s = some n) : 0 < s.size ∧ ∀ r ∈ n.refs, r.size < s.size := by
  have he : ∀ r, r = e0 → r.size = 0 := fun r h => by rw [h]; rfl
  unfold readB at h
  split at h
  · cases h
  · next b hs =>
    cases h
    have hp := split_pos hs
    refine ⟨hp, fun r hr => ?_⟩
    rw [he r (List.eq_of_mem_replicate hr)]
    exact hp
  · next b hs =>
    have hp := split_pos hs
    have hb := split_lt hs
    refine ⟨hp, fun r hr => ?_⟩
    split at h
    · cases h
    · next l hl =>
      have hx := items_size hl
      unfold readItems at h
      split at h
      · next p x =>
        split at h
        · cases h
        · split at h
          · cases h
          · next q _ =>
            obtain ⟨v, _, rfl⟩ := Option.map_eq_some_iff.1 h
            rw [he r (List.eq_of_mem_replicate hr)]
            exact hp
          · next q _ =>
            cases h
            rcases List.mem_cons.1 hr with rfl | hr
            · exact Nat.lt_of_le_of_lt (hx r (by simp)) hb
            · rw [he r (List.eq_of_mem_replicate hr)]
              exact hp
      · split at h
        · obtain ⟨v, _, rfl⟩ := Option.map_eq_some_iff.1 h
          obtain ⟨y, hy, rfl⟩ := List.mem_map.1 hr
          split
          · exact hp
          · exact Nat.lt_of_le_of_lt (hx y (List.mem_of_mem_take hy)) hb
        · cases h
theorem getN_same : ∀ (m : Nat) (s : ByteArray), s.size ≤ m → ∀ (j k : Nat), s.size < j → s.size < k → getN itemsB j s = getN itemsB k s := by
  intro m
  induction m with
  | zero =>
    intro s hs j k hj hk
    obtain ⟨j, rfl⟩ : ∃ i, j = i + 1 := ⟨j - 1, by omega⟩
    obtain ⟨k, rfl⟩ : ∃ i, k = i + 1 := ⟨k - 1, by omega⟩
    simp only [getN, getK]
    rcases hr : readB itemsB s with _ | n
    · rfl
    · have := (refs_lt hr).1
      omega
  | succ m ih =>
    intro s hs j k hj hk
    obtain ⟨j, rfl⟩ : ∃ i, j = i + 1 := ⟨j - 1, by omega⟩
    obtain ⟨k, rfl⟩ : ∃ i, k = i + 1 := ⟨k - 1, by omega⟩
    simp only [getN, getK]
    rcases hr : readB itemsB s with _ | n
    · rfl
    · obtain ⟨h0, h1⟩ := refs_lt hr
      have hv : validK (getN itemsB j) n = validK (getN itemsB k) n := validK_congr (fun r hr => ih r (by have := h1 r hr; omega) j k (by have := h1 r hr; omega) (by have := h1 r hr; omega)) (ih e0 (Nat.zero_le _) j k (by show 0 < j; omega) (by show 0 < k; omega))
      simp only [hv]
/-- The node that bytes are: what they look like, if that may be, and is put as these bytes. -/
theorem getB_eq (s : ByteArray) : getB itemsB s = getK itemsB (getB itemsB) s := by
  show getK itemsB (getN itemsB s.size) s = getK itemsB (fun s => getN itemsB (s.size + 1) s) s
  unfold getK
  rcases hr : readB itemsB s with _ | n
  · rfl
  · obtain ⟨h0, h1⟩ := refs_lt hr
    have hv : validK (getN itemsB s.size) n = validK (fun s => getN itemsB (s.size + 1) s) n := validK_congr (fun r hr => getN_same r.size r (Nat.le_refl _) _ _ (h1 r hr) (Nat.lt_succ_self _)) (getN_same 0 e0 (Nat.le_refl _) _ _ h0 (Nat.lt_succ_self _))
    simp only [hv]
end Go.Proofs.YtfeonjiiijdibaaGreatDoor
namespace Go.Proofs.YtfeonjiiijdibaaGreatDoor
open Go.RowKit Go.Proofs.Nod
set_option linter.unusedVariables false
set_option linter.unusedSimpArgs false
set_option maxRecDepth 100000 in
set_option maxHeartbeats 1000000 in
theorem spath_any (n : Nd) (w : World) (hv : Nib.valid n.path.data.toList = true) (hs : n.path.size ≤ 1000) :
    Calls Tryz.prog 128 #[.agg (ndC n)] w fun e w' => e = .returned (.string (pathB n.path (decide (n.kind = 1)))) ∧ Below w.heap.size w w' := by
  have k0 := Blk.new w 120 (ndC n)
  have b0 : Below w.heap.size w (w.alloc (.cells (ndC n) 120)) := (Below.refl _ _).alloc (Nat.le_refl _) _
  have c0 : (w.alloc (.cells (ndC n) 120)).cell? ⟨w.heap.size, 0, none⟩ = some (.int .i64 n.kind) := by rw [k0.cell]; rfl
  have c1 : (w.alloc (.cells (ndC n) 120)).cell? ⟨w.heap.size, 1, none⟩ = some (.string n.path) := by rw [k0.cell]; rfl
  obtain ⟨P, hP⟩ : ∃ P, P = Nib.bs (Nib.put n.path.data.toList (decide (n.kind = 1))) := ⟨_, rfl⟩
  have hPs : P.size ≤ 70368744177664 := by rw [hP, Nib.bs_size, Nib.put_length]; simp; omega
  have hput := fun W => put_yes n.path (decide (n.kind = 1)) W (by omega) hv
  rw [← hP] at hput
  have hpb : pathB n.path (decide (n.kind = 1)) = Nib.bs (Rlp.text P.data.toList) := by rw [hP]; rfl
  rw [hpb]
  have HT := Lib.hid (fun W => text_any P W hPs)
  have B0 := Lib.hid b0
  obtain ⟨K, hK⟩ : ∃ K, K = n.kind := ⟨_, rfl⟩
  obtain ⟨PA, hPA⟩ : ∃ K, K = n.path := ⟨_, rfl⟩
  obtain ⟨LF, hLF⟩ : ∃ b : Bool, b = decide (n.kind = 1) := ⟨_, rfl⟩
  rw [← hK] at c0
  rw [← hPA] at c1 hput
  rw [← hLF] at hput
  have hbe : (K == 1) = LF := by rw [hLF, hK]; rfl
  have HPUT := Lib.hid hput
  obtain ⟨CS, hCS⟩ : ∃ cs, cs = ndC n := ⟨_, rfl⟩
  rw [← hCS] at c0 c1 B0 ⊢
  clear k0 b0 hP hPs hput hpb hK hPA hLF hCS hv hs
  go_enter Tryz.func128, Tryz.ntmps128
  go_wp2_with fail
  refine (HPUT.out _).mono ?_
  rintro e w1 ⟨rfl, hb1⟩
  have B1 := Lib.hid (B0.out.trans (hb1.mono B0.out.size))
  clear hb1 c0 c1
  go_wp2_with fail
  refine (HT.out _).mono ?_
  rintro e w2 ⟨rfl, hb2⟩
  have B2 := Lib.hid (B1.out.trans (hb2.mono B1.out.size))
  clear hb2
  go_wp2_with fail
  go_ret
  exact ⟨rfl, B2.out⟩
set_option maxRecDepth 100000 in
set_option maxHeartbeats 1000000 in
theorem snone_any (CS : Array Value) (w : World) :
    Calls Tryz.prog 89 #[.agg CS] w fun e w' => e = .returned (.string (textB e0)) ∧ Below w.heap.size w w' := by
  have b0 : Below w.heap.size w (w.alloc (.cells CS 120)) := (Below.refl _ _).alloc (Nat.le_refl _) _
  obtain ⟨T0, hT0⟩ : ∃ T, T = textB e0 := ⟨_, rfl⟩
  have TX : Hid (∀ W, Calls Tryz.prog 73 #[.string ⟨#[]⟩] W fun e w' => e = .returned (.string T0) ∧ Below W.heap.size W w') := Lib.hid (fun W => by rw [hT0]; exact text_any e0 W (by simp [e0, ByteArray.size]))
  rw [← hT0]
  have B0 := Lib.hid b0
  clear b0 hT0
  go_enter Tryz.func89, Tryz.ntmps89
  go_wp2_with fail
  refine (TX.out _).mono ?_
  rintro e w1 ⟨rfl, hb1⟩
  have B1 := Lib.hid (B0.out.trans (hb1.mono B0.out.size))
  clear hb1
  go_wp2_with fail
  go_ret
  exact ⟨rfl, B1.out⟩
end Go.Proofs.YtfeonjiiijdibaaGreatDoor
