/-
  Merged: NodeLaid, NodeArgs, NodeWorks, NodeBackP, NodeFew.
-/
import Derived.Test.YtljadanalcfdeaaDoorGaNodeC
import Derived.Test.YtljadanalcfdeaaDoorCards
import Derived.ProofKit
import Derived.LaidMore
import Derived.LaidHandle
import Derived.OpenShut
import Derived.Stop.Joined
import Derived.Lib.LaidTab
import Derived.Lib.SmallJoins
import Derived.Test.YtljadanalcfdeaaDoorGaStep
import Derived.Test.YtljadanalcfdeaaDoorGaMore
namespace Go.Proofs.YtljadanalcfdeaaDoor
open Go.ChangeShapes Go.WideShapes Go.ChangeAt Go.RowKit
/-- The tables of sha, and errors.errorType. -/
structure LaidN (w : World) : Prop where
  sha : Laid w
  err : Laid2 w
theorem own : ownKnob Tryd.prog.godebug = none := by kernel_rfl
theorem gStart : Tryd.prog.globalNamed "guilloche/sha.start" = some 0 := by kernel_rfl
theorem gAdded : Tryd.prog.globalNamed "guilloche/sha.added" = some 1 := by kernel_rfl
theorem tStart : (Tryd.prog.globals[0]?).map (·.type) = some 72 := by kernel_rfl
theorem tAdded : (Tryd.prog.globals[1]?).map (·.type) = some 96 := by kernel_rfl
theorem block_of_var {W : World} {n : String} {g : Nat} {cs : Array Value} (hg : Tryd.prog.globalNamed n = some g) (h : W.var? Tryd.prog n = some cs) : ∃ t fr, W.heap[g]? = some (.cells cs t fr) := by
  simp only [World.var?, hg, Option.bind_some] at h
  split at h
  · next c t fr heq => cases h; exact ⟨t, fr, heq⟩
  · cases h
theorem vals_of (l : List UInt32) (cs : Array Value) (h : cs.toList = (l.map fun z => (z.toNat : Int)).map fun z => Value.int .u32 z) : cs = wordVals (fun i => l.getD i 0) l.length := by
  apply Array.toList_inj.1
  rw [h, wordVals]
  apply List.ext_getElem
  · simp
  · intro i h1 h2
    simp at h1
    simp [h1]
theorem gErr : Tryd.prog.globalNamed "errors.errorType" = some 2 := by kernel_rfl
theorem rtErr : (Tryd.prog.cutTypes.find? (·.1 == "internal/reflectlite.rtype")).map (·.2) = some 132 := by kernel_rfl
theorem oneRow : ((List.range Tryd.prog.types.size).filter fun t => Tryd.prog.rowNamed t [101, 114, 114, 111, 114]) = [84] := by kernel_rfl
def laidL : List (String × DataW Unit) := [("guilloche/sha.start", Rows.laid_guilloche_sha_start), ("guilloche/sha.added", Rows.laid_guilloche_sha_added), ("errors.errorType", Rows.laid_errors_errorType)]
/-- What the listed variables hold. -/
theorem laid_of {W : World} (h : laidMetH Tryd.prog laidL W) : LaidN W := by
  have h' : laidMet Tryd.prog [("guilloche/sha.start", Rows.laid_guilloche_sha_start), ("guilloche/sha.added", Rows.laid_guilloche_sha_added)] W ∧ handlesMet Tryd.prog [("errors.errorType", Rows.laid_errors_errorType)] W := h
  obtain ⟨⟨ps, ⟨g0, t0, cs0, f0, p0, q0, hg0, ht0, hv0, hd0, ⟨g1, t1, cs1, f1, p1, q1, hg1, ht1, hv1, hd1, _, _⟩, _⟩, _, _⟩, h2⟩ := h'
  refine ⟨?_, ?_⟩
  · obtain rfl := Option.some.inj (gStart.symm.trans hg0)
    obtain rfl := Option.some.inj (gAdded.symm.trans hg1)
    obtain rfl := Option.some.inj (tStart.symm.trans ht0)
    obtain rfl := Option.some.inj (tAdded.symm.trans ht1)
    have e0 := Lib.cells_of_tab (zs := Sha.start.map fun z => (z.toNat : Int)) Tryd.underlying72 Tryd.underlying71 (by kernel_rfl) (by kernel_rfl) hd0
    have e1 := Lib.cells_of_tab (zs := Sha.added.map fun z => (z.toNat : Int)) Tryd.underlying96 Tryd.underlying71 (by kernel_rfl) (by kernel_rfl) hd1
    obtain ⟨a0, b0, h0⟩ := block_of_var gStart hv0
    obtain ⟨a1, b1, h1⟩ := block_of_var gAdded hv1
    refine ⟨⟨a0, b0, ?_⟩, ⟨a1, b1, ?_⟩⟩
    · rw [h0, vals_of Sha.start cs0 e0]; rfl
    · rw [h1, vals_of Sha.added cs1 e1]; rfl
  · obtain ⟨name, u, ty, e1, e2, e3, e4, e5⟩ := h2 _ (List.mem_singleton.2 rfl)
    have en : name = [101, 114, 114, 111, 114] := (Option.some.inj e1).symm
    subst en
    obtain rfl := Option.some.inj (rtErr.symm.trans e2)
    have hm : ty ∈ (List.range Tryd.prog.types.size).filter fun t => Tryd.prog.rowNamed t [101, 114, 114, 111, 114] := List.mem_filter.2 ⟨List.mem_range.2 e3, e4⟩
    rw [oneRow] at hm
    obtain rfl := List.mem_singleton.1 hm
    have h5 := World.var?_cell gErr e5 0
    have h6 : W.cell? ⟨2, 0, none⟩ = some (.iface 132 (.agg #[typeHandle Tryd.prog 84])) := by simpa using h5
    have e : Value.iface 132 (.agg #[typeHandle Tryd.prog 84]) = rt 84 := by kernel_rfl
    rw [e] at h6
    exact h6
/-- The door's own heap meets the condition. -/
theorem door_met (os : Os) (args : Array Value) : laidMetH Tryd.prog laidL ((World.doorLaid Tryd.prog 400 os).forCall (fun _ _ => 0) ⟨#[], args, []⟩).memory :=
  laidMetH_of_parts3 (fuel := 8) (laidMet_of_run' 8 (by kernel_rfl) (by kernel_rfl)) (by kernel_rfl) (by kernel_rfl)
theorem LaidN.on {w w' : World} (h : LaidN w) (k : Below w.heap.size w w') : LaidN w' :=
  ⟨Laid.below h.sha (by obtain ⟨_, _, _, h⟩ := h.sha; exact (Array.getElem?_eq_some_iff.1 h).1) k, h.err.on k (Nat.le_refl _)⟩
end Go.Proofs.YtljadanalcfdeaaDoor
namespace Go.Proofs.YtljadanalcfdeaaDoor
open Go.ChangeShapes Go.WideShapes Go.ChangeAt Go.RowKit Go.Proofs.Nod Go.Joins
set_option linter.unusedVariables false
set_option linter.unusedSimpArgs false
section
variable {H : Type} {enc : TypeId × Value → H} {w : World} {base : Nat} {spare : Nat → Bool} {held : Bool}
/-- A node, as a datum. -/
def ndD (n : Nd) : DataW H := .agg [.lit (.int .i64 n.kind), .lit (.string n.path.data.toList), .lit (.string n.value.data.toList), .agg ((rfs n).map fun r => .lit (.string r.data.toList))]
/-- What an argument may be. -/
structure NdOk (n : Nd) : Prop where
  refs : n.refs.length = 16
  kind : (Lit.int .i64 n.kind).wf = true
  path : n.path.size ≤ maxLen
  value : n.value.size ≤ maxLen
  each : ∀ r ∈ rfs n, r.size ≤ maxLen
theorem cellsStr : Tryd.prog.cellsOf 9 = 1 := by kernel_rfl
theorem cellsKind : Tryd.prog.cellsOf 22 = 1 := by kernel_rfl
theorem cellsArr : Tryd.prog.cellsOf 23 = 16 := by kernel_rfl
set_option maxRecDepth 100000 in
theorem ndC_of (k : Int) (p v : ByteArray) (l : List ByteArray) (h : l.length = 16) : ndC ⟨k, p, v, l⟩ = (Value.int .i64 k :: .string p :: .string v :: l.map Value.string).toArray := by
  have e : rfs ⟨k, p, v, l⟩ = l := rfs_eq ⟨k, p, v, l⟩ h
  have e2 : (ndC ⟨k, p, v, l⟩) = (Value.int .i64 k :: .string p :: .string v :: (rfs ⟨k, p, v, l⟩).map Value.string).toArray := by kernel_rfl
  exact e2.trans (congrArg (fun l : List ByteArray => (Value.int .i64 k :: .string p :: .string v :: l.map Value.string).toArray) e)
set_option maxRecDepth 100000 in
theorem open_nd {r : Reach} {b0 : Nat} {v : Value} {d : DataW H} {p : List MemPlace} (hv : Value.okWide Tryd.prog w r b0 25 v) (h : DataW.Trod enc Tryd.prog w base spare held 25 v d p) :
    ∃ n : Nd, v = .agg (ndC n) ∧ d = ndD n ∧ p = [] ∧ NdOk n := by
  obtain ⟨cs, rfl, hsz⟩ := okWide_struct Tryd.underlying25 hv
  obtain ⟨fuel, hf⟩ := h
  rw [show (Value.agg cs).cells.toList = cs.toList from rfl] at hf
  obtain ⟨y0, y1, y2, y3, n, hx, hlen, h0, h1, h2, h3⟩ := trod_struct4 Tryd.underlying25 hf
  have hl : cs.toList.length = 19 := by rw [show cs.toList.length = cs.size by simp, hsz]; kernel_rfl
  obtain ⟨K, e0', x0, wk⟩ := DataW.trod_int Tryd.underlying22 h0
  obtain ⟨P, e1', x1, wp⟩ := DataW.trod_string Tryd.underlying9 h1
  obtain ⟨V, e2', x2, wv⟩ := DataW.trod_string Tryd.underlying9 h2
  obtain ⟨xs, m, _, x3, hl3, hxl, hel⟩ := DataW.trod_array Tryd.underlying23 h3
  have key : ∀ i, ∃ s : ByteArray, i < 16 → (cs.toList[3 + i]? = some (.string s) ∧ xs[i]? = some (.lit (.string s.data.toList), []) ∧ s.size ≤ maxLen) := by
    intro i
    by_cases hi : i < 16
    · have h4 := hel i hi
      rcases hx4 : xs[i]? with _ | y
      · rw [List.getElem?_eq_none_iff] at hx4; omega
      · rw [hx4] at h4
        obtain ⟨s, e4, x4, w4⟩ := DataW.trod_string Tryd.underlying9 h4
        refine ⟨s, fun _ => ⟨?_, by rw [x4], w4⟩⟩
        have := congrArg (fun l : List Value => l[0]?) e4
        simp only [cellsStr, List.getElem?_take, List.getElem?_drop] at this
        simpa [cellsArr, hi] using this
    · exact ⟨e0, fun h => absurd h hi⟩
  obtain ⟨f, hf4⟩ := Classical.axiomOfChoice key
  have g0 : cs.toList[0]? = some (.int .i64 K) := by
    have := congrArg (fun l : List Value => l[0]?) e0'
    simpa [cellsKind, List.getElem?_take, List.getElem?_drop] using this
  have g1 : cs.toList[1]? = some (.string P) := by
    have := congrArg (fun l : List Value => l[0]?) e1'
    simpa [cellsStr, List.getElem?_take, List.getElem?_drop] using this
  have g2 : cs.toList[2]? = some (.string V) := by
    have := congrArg (fun l : List Value => l[0]?) e2'
    simpa [cellsStr, List.getElem?_take, List.getElem?_drop] using this
  have hll : ((List.range 16).map f).length = 16 := by simp
  have hrf : rfs ⟨K, P, V, (List.range 16).map f⟩ = (List.range 16).map f := rfs_eq ⟨K, P, V, (List.range 16).map f⟩ hll
  have hcs : cs.toList = Value.int .i64 K :: .string P :: .string V :: ((List.range 16).map f).map Value.string := by
    apply List.ext_getElem?
    intro i
    match i with
    | 0 => rw [g0]; rfl
    | 1 => rw [g1]; rfl
    | 2 => rw [g2]; rfl
    | j + 3 =>
      by_cases hj : j < 16
      · have := (hf4 j hj).1
        rw [Nat.add_comm] at this
        rw [this]
        simp [hj]
      · rw [List.getElem?_eq_none (by rw [hl]; omega), List.getElem?_eq_none (by simp; omega)]
  have hxs : xs = ((List.range 16).map f).map fun s => (.lit (.string s.data.toList), []) := by
    apply List.ext_getElem?
    intro i
    by_cases hi : i < 16
    · rw [(hf4 i hi).2.1]; simp [hi]
    · rw [List.getElem?_eq_none (by omega), List.getElem?_eq_none (by simp; omega)]
  simp only [Prod.mk.injEq] at hx
  refine ⟨⟨K, P, V, (List.range 16).map f⟩, ?_, ?_, ?_, ⟨hll, wk, wp, wv, ?_⟩⟩
  · rw [ndC_of _ _ _ _ hll, ← hcs]
  · rw [hx.1, x0, x1, x2, x3, hxs]
    unfold ndD
    rw [hrf]
    simp
  · rw [hx.2, x0, x1, x2, x3, hxs]
    simp
  · rw [hrf]
    intro r hr
    obtain ⟨i, hi, rfl⟩ := List.mem_map.1 hr
    exact (hf4 i (by simpa using hi)).2.2
theorem mapM_all {α β : Type} {f : α → Option β} {g : α → β} : ∀ l : List α, (∀ x ∈ l, f x = some (g x)) → l.mapM f = some (l.map g)
  | [], _ => rfl
  | x :: l, h => by
    rw [List.mapM_cons, h x (by simp), mapM_all l (fun y hy => h y (by simp [hy]))]
    rfl
theorem trod_strs (l : List ByteArray) (hl : l.length = 16) (hw : ∀ r ∈ l, r.size ≤ maxLen) : DataW.trod enc Tryd.prog w base spare held 2 23 (l.map Value.string) = some (.agg (l.map fun r => .lit (.string r.data.toList)), []) := by
  have hs : ∀ i ∈ List.range 16, DataW.trod enc Tryd.prog w base spare held 1 9 (((l.map Value.string).drop (i * Tryd.prog.cellsOf 9)).take (Tryd.prog.cellsOf 9)) = some ((fun i => ((.lit (.string (l.getD i e0).data.toList), []) : DataW H × List MemPlace)) i) := by
    intro i hi
    have hi' : i < l.length := by rw [hl]; simpa using hi
    have e : ((l.map Value.string).drop (i * Tryd.prog.cellsOf 9)).take (Tryd.prog.cellsOf 9) = [.string (l.getD i e0)] := by
      rw [cellsStr, Nat.mul_one]
      apply List.ext_getElem?
      intro j
      rcases j with _ | j
      · simp [List.getElem?_take, List.getElem?_drop, List.getElem?_eq_getElem hi', List.getD_eq_getElem?_getD]
      · simp [List.getElem?_take]
    rw [e]
    have hm : (l.getD i e0).size ≤ maxLen := hw _ (by rw [List.getD_eq_getElem?_getD, List.getElem?_eq_getElem hi']; exact List.getElem_mem _)
    rw [List.getD_eq_getElem?_getD] at hm ⊢
    simp [DataW.trod, Tryd.underlying9, hm]
  have hm := mapM_all _ hs
  have hlen : (l.map Value.string).length = Tryd.prog.cellsOf 23 := by rw [cellsArr]; simp [hl]
  unfold DataW.trod
  rw [Tryd.underlying23]
  simp only [hlen, if_true, hm]
  have e2 : (List.range 16).map (fun i => ((.lit (.string (l.getD i e0).data.toList), []) : DataW H × List MemPlace)) = l.map fun r => (.lit (.string r.data.toList), []) := by
    apply List.ext_getElem
    · simp [hl]
    · intro i h1 h2
      simp at h2
      simp [List.getD_eq_getElem?_getD, List.getElem?_eq_getElem h2]
  rw [e2]
  simp
set_option maxRecDepth 100000 in
theorem shut_nd {n : Nd} (h : NdOk n) : DataW.Trod enc Tryd.prog w base spare held 25 (.agg (ndC n)) (ndD n) [] := by
  have e2 : (ndC n).toList = Value.int .i64 n.kind :: .string n.path :: .string n.value :: (rfs n).map Value.string := by kernel_rfl
  refine ⟨3, ?_⟩
  show DataW.trod enc Tryd.prog w base spare held 3 25 (ndC n).toList = _
  rw [e2]
  have h3 := trod_strs (enc := enc) (w := w) (base := base) (spare := spare) (held := held) (rfs n) (rfs_length n) h.each
  have hlen : (Value.int .i64 n.kind :: .string n.path :: .string n.value :: (rfs n).map Value.string).length = Tryd.prog.cellsOf 25 := by
    rw [show Tryd.prog.cellsOf 25 = 19 by kernel_rfl]
    simp [rfs_length]
  have := trod_struct4_mk (enc := enc) (w := w) (base := base) (spare := spare) (held := held) (n := 2) (cs := Value.int .i64 n.kind :: .string n.path :: .string n.value :: (rfs n).map Value.string)
    (y0 := (.lit (.int .i64 n.kind), [])) (y1 := (.lit (.string n.path.data.toList), [])) (y2 := (.lit (.string n.value.data.toList), [])) (y3 := (.agg ((rfs n).map fun r => .lit (.string r.data.toList)), []))
    Tryd.underlying25 hlen (by simp [cellsKind, DataW.trod, Tryd.underlying22, h.kind]) (by simp [cellsStr, DataW.trod, Tryd.underlying9, h.path]) (by simp [cellsStr, DataW.trod, Tryd.underlying9, h.value])
    (by
      rw [cellsArr]
      show DataW.trod enc Tryd.prog w base spare held 2 23 (((rfs n).map Value.string).take 16) = _
      rw [List.take_of_length_le (by simp [rfs_length])]
      exact h3)
  rw [this]
  rfl
end
end Go.Proofs.YtljadanalcfdeaaDoor
namespace Go.Proofs.Nod
open Go.Proofs.Nib (bs)
def shaB (s : ByteArray) : ByteArray := bs (Sha.sum s.data.toList)
theorem refB_hash {s : ByteArray} (h : ¬ s.size < 32) : refB s = textB (shaB s) := by unfold refB; rw [if_neg h]; rfl
theorem text32 (h : ByteArray) (e : h.size = 32) : textB h = bs (160 :: h.data.toList) := by
  have hl : h.data.toList.length = 32 := by simpa using e
  have ho : Rlp.own h.data.toList = false := by
    match hd : h.data.toList, hl with
    | [], h => simp at h
    | [_], h => simp at h
    | _ :: _ :: _, _ => rfl
  unfold textB Rlp.text
  rw [ho]
  simp [Rlp.head, hl]
theorem text32_size (h : ByteArray) (e : h.size = 32) : (textB h).size = 33 := by rw [text32 h e, Nib.bs_size]; simp [e]
theorem text32_cut (h : ByteArray) (e : h.size = 32) : (textB h).extract 1 33 = h := by
  rw [text32 h e]
  apply ByteArray.ext
  apply Array.toList_inj.1
  rw [Lib.extract_data]
  have hl : h.data.toList.length = 32 := by simpa using e
  simp [bs]
  exact List.take_of_length_le (by omega)
theorem hashB_text (h : ByteArray) (e : h.size = 32) : hashB (textB h) = some h := by
  unfold hashB
  rw [text32_cut h e, if_pos ⟨text32_size h e, rfl⟩]
end Go.Proofs.Nod
namespace Go.Proofs.YtljadanalcfdeaaDoor
open Go.RowKit Go.Proofs.Nod
set_option linter.unusedVariables false
set_option linter.unusedSimpArgs false
def leafW : Nd := leafN ⟨#[1]⟩ ⟨#[118]⟩
def sW : ByteArray := ⟨#[194, 49, 118]⟩
def brW0 : Nd := ⟨3, e0, ⟨#[119]⟩, List.replicate 16 e0⟩
def brW : Nd := ⟨3, e0, ⟨#[119]⟩, [e0, e0, e0, sW, e0, e0, e0, e0, e0, e0, e0, e0, e0, e0, e0, e0]⟩
def tW : ByteArray := ⟨#[211, 128, 128, 128, 194, 49, 118, 128, 128, 128, 128, 128, 128, 128, 128, 128, 128, 128, 128, 119]⟩
def noW : Nd := ⟨9, e0, e0, List.replicate 16 e0⟩
theorem shaB_size (s : ByteArray) : (shaB s).size = 32 := by unfold shaB; rw [Nib.bs_size, Sha.sum, out_length]
theorem wk_leaf : validB leafW = true ∧ bytesB leafW = sW := by decide +kernel
theorem wk_get : gB sW = some leafW := by decide +kernel
theorem wk_br : validB brW = true ∧ bytesB brW = tW := by decide +kernel
theorem wk_in : inB sW = some leafW := by decide +kernel
theorem wk_none : gB e0 = none := by decide +kernel
theorem wk_no : validB noW = false := validB_no noW (by decide)
theorem wk_hashes : hashes brW = [] := by decide +kernel
theorem wk_ref : refB sW = sW := by decide +kernel
theorem wk_put {n : Nd} {s : ByteArray} (h : validB n = true ∧ bytesB n = s) (h16 : n.refs.length = 16) (W : World) (hl : Laid2 W) :
    Calls Tryd.prog 10 #[.agg (ndC n)] W fun e w' => e = .returned (.tuple #[.string s, .int .i64 0]) ∧ Below W.heap.size W w' := by
  have := put_all n W h16 (fun r _ h => get_any r (by omega)) hl
  unfold Ptd putB at this
  rw [if_pos h.1, if_pos h.1, h.2] at this
  exact this
theorem wk_geta (s : ByteArray) (hs : s.size ≤ 10000) (W : World) (hl : Laid2 W) : Calls Tryd.prog 11 #[.string s] W fun e w' => e = .returned (.tuple #[.agg (ndC ((gB s).getD zeroN)), .int .i64 (if (gB s).isSome = true then 0 else 2)]) ∧ Below W.heap.size W w' := get_any s hs W hl
theorem wk_valid (n : Nd) (h16 : n.refs.length = 16) (W : World) (hl : Laid2 W) :
    Calls Tryd.prog 12 #[.agg (ndC n)] W fun e w' => e = .returned (.bool (validB n)) ∧ Below W.heap.size W w' :=
  valid_all n W h16 (fun r _ h => get_any r (by omega)) hl
theorem built_nd {n : Nd} {cs : Array Value} (k : Int) (v : ByteArray) (hn : n = ⟨k, e0, v, List.replicate 16 e0⟩) (h : cs = ndC n) : Tryd.prog.built 25 [(0, .int .i64 k), (2, .string v)] = some cs := by rw [h, hn]; kernel_rfl
theorem built_kind {n : Nd} {cs : Array Value} (k : Int) (hn : n = ⟨k, e0, e0, List.replicate 16 e0⟩) (h : cs = ndC n) : Tryd.prog.built 25 [(0, .int .i64 k)] = some cs := by rw [h, hn]; kernel_rfl
set_option maxRecDepth 100000 in
theorem al_nd0 {cs : Array Value} (h : cs = ndC zeroN) (W : World) : (Instr.alloc 25 true (.tuple #[])).run Tryd.prog W = .ok (.pointer (some ⟨W.heap.size, 0, none⟩)) (W.alloc (.cells cs 25)) := by
  rw [h, ndC_zero]
  kernel_rfl
theorem run_conv_lit {o : Oper} {a : Act} {W : World} {b n : Nat} {l : List UInt8} {x : Operand} (ho : o.op = .convert 47 9 x) (hx : a.eval x = .slice (some ⟨b, 0, none⟩) n n) (h : Lit W b l) (hn : n = l.length) : (execOp a.eval o).run Tryd.prog W = .ok (.value (.string (Nib.bs l))) W := by
  subst hn
  unfold execOp
  simp only [ho, hx, Sem.run_bind, h.conv, Result.andThen_ok, Sem.run_pure]
/-- sha.Of of one text. -/
theorem of_one (s : ByteArray) (b : Nat) (W : World) (hl : Laid W) (hs : s.size ≤ 1048576) (h : Blk W b 9 #[.string s]) : Calls Tryd.prog 16 #[.slice (some ⟨b, 0, none⟩) 1 1] W fun e w' => e = .returned (.string (shaB s)) ∧ Below W.heap.size W w' := by
  have := of_any b 0 1 [s] W hl h.lt (by simpa using hs) (by simp) (fun i hi => by
    obtain rfl : i = 0 := by simpa using hi
    rw [h.cell]; rfl)
  rw [show Sha.cat [s] = s.data.toList by simp [Sha.cat]] at this
  exact this
theorem run_eql_of {o : Oper} {a : Act} {W : World} {x y : Operand} {n m : Nd} (ho : o.op = .binOp .eql 25 x y 25) (xs ys : Array Value) (hn : xs = ndC n) (hm : ys = ndC m) (hx : a.eval x = .agg xs) (hy : a.eval y = .agg ys) (h1 : n.refs.length = 16) (h2 : m.refs.length = 16) (b : Bool) (hb : decide (n = m) = b) :
    (execOp a.eval o).run Tryd.prog W = .ok (.value (.bool b)) W := by
  subst hb hn hm
  unfold execOp
  simp only [ho, Sem.run_bind, hx, hy, guard_nd, Result.andThen_ok, eql_nd n m h1 h2, Sem.run_pure]
theorem run_neq_of {o : Oper} {a : Act} {W : World} {x y : Operand} {n m : Nd} (ho : o.op = .binOp .neq 25 x y 25) (xs ys : Array Value) (hn : xs = ndC n) (hm : ys = ndC m) (hx : a.eval x = .agg xs) (hy : a.eval y = .agg ys) (h1 : n.refs.length = 16) (h2 : m.refs.length = 16) (b : Bool) (hb : decide (n = m) = b) :
    (execOp a.eval o).run Tryd.prog W = .ok (.value (.bool (!b))) W := by
  subst hb hn hm
  unfold execOp
  simp only [ho, Sem.run_bind, hx, hy, guard_nd, Result.andThen_ok, neq_nd n m h1 h2, Sem.run_pure]
theorem run_eqs {o : Oper} {a : Act} {W : World} {x y : Operand} (ho : o.op = .binOp .eql 9 x y 9) (s t : ByteArray) (hx : a.eval x = .string s) (hy : a.eval y = .string t) (b : Bool) (hb : decide (s = t) = b) :
    (execOp a.eval o).run Tryd.prog W = .ok (.value (.bool b)) W := by
  subst hb
  unfold execOp
  simp only [ho, hx, hy]
  rw [← bytes_eq]
  simp [go_sem]
theorem run_nes {o : Oper} {a : Act} {W : World} {x y : Operand} (ho : o.op = .binOp .neq 9 x y 9) (s t : ByteArray) (hx : a.eval x = .string s) (hy : a.eval y = .string t) (b : Bool) (hb : decide (s = t) = b) :
    (execOp a.eval o).run Tryd.prog W = .ok (.value (.bool (!b))) W := by
  subst hb
  unfold execOp
  simp only [ho, hx, hy]
  rw [← bytes_eq]
  simp [go_sem]
set_option maxRecDepth 100000 in
set_option maxHeartbeats 4000000 in
theorem nworks_any (w : World) (hl : LaidN w) : Calls Tryd.prog 8 #[] w fun e w' => e = .returned (.bool true) ∧ Below w.heap.size w w' := by
  have b0 := Bl.start w
  have B0 := Lib.hid b0
  have LA : Hid (∀ W, Below w.heap.size w W → LaidN W) := Lib.hid (fun W h => hl.on h)
  obtain ⟨Z0, hZ0⟩ : ∃ z, z = ndC zeroN := ⟨_, rfl⟩
  have NZ0 := Lib.hid (show Ndc Z0 by rw [hZ0]; exact .of _)
  have HZ0 := Lib.hid hZ0
  obtain ⟨LC, hLC⟩ : ∃ z, z = ndC leafW := ⟨_, rfl⟩
  have NLC := Lib.hid (show Ndc LC by rw [hLC]; exact .of _)
  have HLC := Lib.hid hLC
  obtain ⟨C0, hC0⟩ : ∃ z, z = ndC brW0 := ⟨_, rfl⟩
  have NC0 := Lib.hid (show Ndc C0 by rw [hC0]; exact .of _)
  have HC0 := Lib.hid hC0
  obtain ⟨CB, hCB⟩ : ∃ z, z = ndC brW := ⟨_, rfl⟩
  have NCB := Lib.hid (show Ndc CB by rw [hCB]; exact .of _)
  have HCB := Lib.hid hCB
  obtain ⟨C9, hC9⟩ : ∃ z, z = ndC noW := ⟨_, rfl⟩
  have NC9 := Lib.hid (show Ndc C9 by rw [hC9]; exact .of _)
  have HC9 := Lib.hid hC9
  have HZ := HZ0
  have NZ := NZ0
  obtain ⟨HS, hHS⟩ : ∃ h, h = shaB (tW ++ tW ++ tW) := ⟨_, rfl⟩
  have HHS := Lib.hid hHS
  have rS : refB (tW ++ tW ++ tW) = textB HS := by rw [hHS]; exact refB_hash (by decide)
  have rS2 : hashB (textB HS) = some HS := by rw [hHS]; exact hashB_text _ (shaB_size _)
  have rS3 : (textB HS).size = 33 := by rw [hHS]; exact text32_size _ (shaB_size _)
  obtain ⟨RS, hRS⟩ : ∃ h, h = textB HS := ⟨_, rfl⟩
  rw [← hRS] at rS rS2 rS3
  have RF3 := Lib.hid (fun W (h : LaidN W) => (rS ▸ ref_any (tW ++ tW ++ tW) W (by decide) h.sha : Calls Tryd.prog 13 #[.string (tW ++ tW ++ tW)] W fun e w' => e = .returned (.string RS) ∧ Below W.heap.size W w'))
  have HS3 := Lib.hid (fun W => by have := hash_any RS W; rw [rS2] at this; exact this)
  have c3 : (ndC brW0)[6]? = some (.string e0) := by kernel_rfl
  have c3b : (ndC brW)[6]? = some (.string sW) := by kernel_rfl
  have cs3 : (ndC brW0).setIfInBounds 6 (.string sW) = ndC brW := by kernel_rfl
  rw [← hC0] at c3 cs3
  rw [← hCB] at c3b cs3
  have CS3 := Lib.hid cs3
  have CC3 := Lib.hid c3
  have CB3 := Lib.hid c3b
  have PUT1 := Lib.hid (fun W h => by have := wk_put wk_leaf rfl W h; rw [← hLC] at this; exact this)
  have GET1 := Lib.hid (fun W h => by have := wk_geta sW (by decide) W h; rw [wk_get] at this; exact (hLC ▸ this : Calls Tryd.prog 11 #[.string sW] W fun e w' => e = .returned (.tuple #[.agg LC, .int .i64 0]) ∧ Below W.heap.size W w'))
  have GET0 := Lib.hid (fun W h => by have := wk_geta e0 (by decide) W h; rw [wk_none] at this; exact (hZ0 ▸ this : Calls Tryd.prog 11 #[.string e0] W fun e w' => e = .returned (.tuple #[.agg Z0, .int .i64 2]) ∧ Below W.heap.size W w'))
  have REF1 := Lib.hid (fun W (h : LaidN W) => (wk_ref ▸ ref_any sW W (by decide) h.sha : Calls Tryd.prog 13 #[.string sW] W fun e w' => e = .returned (.string sW) ∧ Below W.heap.size W w'))
  have PUT2 := Lib.hid (fun W h => by have := wk_put wk_br rfl W h; rw [← hCB] at this; exact this)
  have INL := Lib.hid (fun W h => by have := inline_any sW W h (fun _ => get_any sW (by decide)); unfold Inl at this; rw [wk_in] at this; exact (hLC ▸ this : Calls Tryd.prog 15 #[.string sW] W fun e w' => e = .returned (.tuple #[.agg LC, .bool true]) ∧ Below W.heap.size W w'))
  have VAL := Lib.hid (fun W h => by have := wk_valid brW rfl W h; rw [wk_br.1, ← hCB] at this; exact this)
  have VA9 := Lib.hid (fun W h => by have := wk_valid noW rfl W h; rw [wk_no, ← hC9] at this; exact this)
  have HSH := Lib.hid (fun W h => by have := hashes_any brW rfl W h; unfold Hsh at this; rw [wk_hashes, ← hCB] at this; exact this)
  clear b0 hl hZ0 hLC hC0 hCB hC9 rS rS2 rS3 hHS hRS c3 c3b cs3 HZ0 NZ0
  go_enter Tryd.func8, Tryd.ntmps8
  go_upto_region 1 with (fail)
  refine wp_region_lit (Segs.WL.out ?_)
  obtain ⟨N1, hN1⟩ : ∃ n, n = w.heap.size := ⟨_, rfl⟩
  have K2 := Lib.hid (by have := Blk.new w 5 (([1] : List UInt8).map fun b => Value.int .u8 (b.toNat : Int)).toArray; rw [← hN1] at this; exact this : Blk (w.alloc (.cells (([1] : List UInt8).map fun b => Value.int .u8 (b.toNat : Int)).toArray 5)) N1 5 (([1] : List UInt8).map fun b => Value.int .u8 (b.toNat : Int)).toArray)
  have B3 := Lib.hid (B0.out.alloc (.cells (([1] : List UInt8).map fun b => Value.int .u8 (b.toNat : Int)).toArray 5))
  have ge4 : w.heap.size ≤ N1 := by rw [hN1]; exact B0.out.2
  refine Segs.WL.val (some 15) (.slice (some ⟨N1, 0, none⟩) 1 1) (w.alloc (.cells (([1] : List UInt8).map fun b => Value.int .u8 (b.toNat : Int)).toArray 5)) rfl (by kernel_rfl) (by rw [hN1]; exact Segs.run_slice_of 47 5 1 _ rfl _ Tryd.underlying47 (by kernel_rfl)) ?_
  simp only [Act.put, List.setIfInBounds_toArray, List.set_cons_zero, List.set_cons_succ]
  generalize w.alloc (.cells (([1] : List UInt8).map fun b => Value.int .u8 (b.toNat : Int)).toArray 5) = W1 at K2 B3 ⊢
  clear hN1
  refine Segs.WL.val (some 16) (.string ⟨#[1]⟩) W1 rfl (by kernel_rfl) (run_conv_lit rfl (by kernel_rfl) (show Lit _ N1 [1] from K2.out) rfl) ?_
  simp only [Act.put, List.setIfInBounds_toArray, List.set_cons_zero, List.set_cons_succ]
  refine Segs.WL.val (some 17) (.agg LC) W1 rfl (by kernel_rfl) (Segs.run_built0 25 _ rfl LC (built_leaf_of HLC.out rfl (by kernel_rfl) (by kernel_rfl))) ?_
  simp only [Act.put, List.setIfInBounds_toArray, List.set_cons_zero, List.set_cons_succ]
  obtain ⟨N2, hN2⟩ : ∃ n, n = W1.heap.size := ⟨_, rfl⟩
  have K6 := Lib.hid (K2.out.alloc (.cells Z0 25))
  have ne7 : N1 ≠ N2 := by have := K2.out.lt; omega
  have K8 := Lib.hid (by have := Blk.new W1 25 Z0; rw [← hN2] at this; exact this : Blk (W1.alloc (.cells Z0 25)) N2 25 Z0)
  have B9 := Lib.hid (B3.out.alloc (.cells Z0 25))
  have ge10 : w.heap.size ≤ N2 := by rw [hN2]; exact B3.out.2
  refine Segs.WL.val (some 1) (.pointer (some ⟨N2, 0, none⟩)) (W1.alloc (.cells Z0 25)) rfl (by kernel_rfl) (by rw [hN2]; exact Segs.run_allocOf rfl Z0 (al_nd0 HZ.out)) ?_
  simp only [Act.put, List.setIfInBounds_toArray, List.set_cons_zero, List.set_cons_succ]
  generalize W1.alloc (.cells Z0 25) = W5 at K6 K8 B9 ⊢
  clear hN2
  have K12 := Lib.hid (K6.out.rowOther (g' := N2) (cs := LC) ne7)
  have K13 := Lib.hid (K8.out.row (cs := LC))
  have B14 := Lib.hid (Bl.setRow B9.out (g := N2) ge10 LC)
  refine Segs.WL.skip (W5.setRow N2 LC) rfl (by kernel_rfl) (Segs.run_storeRow rfl N2 LC (by kernel_rfl) (by kernel_rfl) 25 Z0 K8.out (info19 NLC.out.size) (NZ.out.size.trans NLC.out.size.symm) NLC.out.one) ?_
  generalize W5.setRow N2 LC = W11 at K12 K13 B14 ⊢
  refine Segs.WL.nil ?_
  go_upto_region 2 with (fail)
  refine wp_region_lit (Segs.WL.out ?_)
  refine Segs.WL.val (some 19) (.agg LC) W11 rfl (by kernel_rfl) (Segs.run_row 25 (.tmp 1) rfl N2 (by kernel_rfl) 25 LC _ K13.out Tryd.underlying25 rfl (info19 (NLC.out.size))) ?_
  simp only [Act.put, List.setIfInBounds_toArray, List.set_cons_zero, List.set_cons_succ]
  refine Segs.WL.call (some 20) 10 #[.agg LC] _ rfl (by kernel_rfl) (by kernel_rfl) (PUT1.out W11 (LA.out _ B14.out.1).err) (fun e W15 hR => ?_)
  obtain ⟨rfl, hb⟩ := hR
  refine ⟨_, rfl, ?_⟩
  simp only [Act.put, List.setIfInBounds_toArray, List.set_cons_zero, List.set_cons_succ]
  have K16 := Lib.hid (K12.out.below hb)
  have K17 := Lib.hid (K13.out.below hb)
  have B18 := Lib.hid (B14.out.call hb)
  clear hb
  refine Segs.WL.val (some 18) (.tuple #[.string sW, .int .i64 0]) W15 rfl (by kernel_rfl) (by kernel_rfl) ?_
  simp only [Act.put, List.setIfInBounds_toArray, List.set_cons_zero, List.set_cons_succ]
  refine Segs.WL.val (some 21) (.string sW) W15 rfl (by kernel_rfl) (by kernel_rfl) ?_
  simp only [Act.put, List.setIfInBounds_toArray, List.set_cons_zero, List.set_cons_succ]
  refine Segs.WL.val (some 22) (.int .i64 0) W15 rfl (by kernel_rfl) (by kernel_rfl) ?_
  simp only [Act.put, List.setIfInBounds_toArray, List.set_cons_zero, List.set_cons_succ]
  refine Segs.WL.val (some 2) (.string sW) W15 rfl (by kernel_rfl) (by kernel_rfl) ?_
  simp only [Act.put, List.setIfInBounds_toArray, List.set_cons_zero, List.set_cons_succ]
  refine Segs.WL.val (some 3) (.int .i64 0) W15 rfl (by kernel_rfl) (by kernel_rfl) ?_
  simp only [Act.put, List.setIfInBounds_toArray, List.set_cons_zero, List.set_cons_succ]
  refine Segs.WL.nil ?_
  go_upto_region 3 with (fail)
  refine wp_region_lit (Segs.WL.out ?_)
  refine Segs.WL.val (some 24) (.string sW) W15 rfl (by kernel_rfl) (by kernel_rfl) ?_
  simp only [Act.put, List.setIfInBounds_toArray, List.set_cons_zero, List.set_cons_succ]
  refine Segs.WL.call (some 25) 11 #[.string sW] _ rfl (by kernel_rfl) (by kernel_rfl) (GET1.out W15 (LA.out _ B18.out.1).err) (fun e W19 hR => ?_)
  obtain ⟨rfl, hb⟩ := hR
  refine ⟨_, rfl, ?_⟩
  simp only [Act.put, List.setIfInBounds_toArray, List.set_cons_zero, List.set_cons_succ]
  have K20 := Lib.hid (K16.out.below hb)
  have K21 := Lib.hid (K17.out.below hb)
  have B22 := Lib.hid (B18.out.call hb)
  clear hb
  refine Segs.WL.val (some 23) (.tuple #[.agg LC, .int .i64 0]) W19 rfl (by kernel_rfl) (by kernel_rfl) ?_
  simp only [Act.put, List.setIfInBounds_toArray, List.set_cons_zero, List.set_cons_succ]
  refine Segs.WL.val (some 26) (.agg LC) W19 rfl (by kernel_rfl) (by kernel_rfl) ?_
  simp only [Act.put, List.setIfInBounds_toArray, List.set_cons_zero, List.set_cons_succ]
  refine Segs.WL.val (some 27) (.int .i64 0) W19 rfl (by kernel_rfl) (by kernel_rfl) ?_
  simp only [Act.put, List.setIfInBounds_toArray, List.set_cons_zero, List.set_cons_succ]
  obtain ⟨N3, hN3⟩ : ∃ n, n = W19.heap.size := ⟨_, rfl⟩
  have K24 := Lib.hid (K20.out.alloc (.cells Z0 25))
  have ne25 : N1 ≠ N3 := by have := K20.out.lt; omega
  have K26 := Lib.hid (K21.out.alloc (.cells Z0 25))
  have ne27 : N2 ≠ N3 := by have := K21.out.lt; omega
  have K28 := Lib.hid (by have := Blk.new W19 25 Z0; rw [← hN3] at this; exact this : Blk (W19.alloc (.cells Z0 25)) N3 25 Z0)
  have B29 := Lib.hid (B22.out.alloc (.cells Z0 25))
  have ge30 : w.heap.size ≤ N3 := by rw [hN3]; exact B22.out.2
  refine Segs.WL.val (some 4) (.pointer (some ⟨N3, 0, none⟩)) (W19.alloc (.cells Z0 25)) rfl (by kernel_rfl) (by rw [hN3]; exact Segs.run_allocOf rfl Z0 (al_nd0 HZ.out)) ?_
  simp only [Act.put, List.setIfInBounds_toArray, List.set_cons_zero, List.set_cons_succ]
  generalize W19.alloc (.cells Z0 25) = W23 at K24 K26 K28 B29 ⊢
  clear hN3
  have K32 := Lib.hid (K24.out.rowOther (g' := N3) (cs := LC) ne25)
  have K33 := Lib.hid (K26.out.rowOther (g' := N3) (cs := LC) ne27)
  have K34 := Lib.hid (K28.out.row (cs := LC))
  have B35 := Lib.hid (Bl.setRow B29.out (g := N3) ge30 LC)
  refine Segs.WL.skip (W23.setRow N3 LC) rfl (by kernel_rfl) (Segs.run_storeRow rfl N3 LC (by kernel_rfl) (by kernel_rfl) 25 Z0 K28.out (info19 NLC.out.size) (NZ.out.size.trans NLC.out.size.symm) NLC.out.one) ?_
  generalize W23.setRow N3 LC = W31 at K32 K33 K34 B35 ⊢
  refine Segs.WL.val (some 5) (.int .i64 0) W31 rfl (by kernel_rfl) (by kernel_rfl) ?_
  simp only [Act.put, List.setIfInBounds_toArray, List.set_cons_zero, List.set_cons_succ]
  refine Segs.WL.nil ?_
  go_upto_region 4 with (fail)
  refine wp_region_lit (Segs.WL.out ?_)
  refine Segs.WL.val (some 28) (.agg C0) W31 rfl (by kernel_rfl) (Segs.run_built0 25 _ rfl C0 (by simp only [List.map_toArray, List.map_cons, List.map_nil]; exact built_nd 3 ⟨#[119]⟩ rfl HC0.out)) ?_
  simp only [Act.put, List.setIfInBounds_toArray, List.set_cons_zero, List.set_cons_succ]
  obtain ⟨N4, hN4⟩ : ∃ n, n = W31.heap.size := ⟨_, rfl⟩
  have K37 := Lib.hid (K32.out.alloc (.cells Z0 25))
  have ne38 : N1 ≠ N4 := by have := K32.out.lt; omega
  have K39 := Lib.hid (K33.out.alloc (.cells Z0 25))
  have ne40 : N2 ≠ N4 := by have := K33.out.lt; omega
  have K41 := Lib.hid (K34.out.alloc (.cells Z0 25))
  have ne42 : N3 ≠ N4 := by have := K34.out.lt; omega
  have K43 := Lib.hid (by have := Blk.new W31 25 Z0; rw [← hN4] at this; exact this : Blk (W31.alloc (.cells Z0 25)) N4 25 Z0)
  have B44 := Lib.hid (B35.out.alloc (.cells Z0 25))
  have ge45 : w.heap.size ≤ N4 := by rw [hN4]; exact B35.out.2
  refine Segs.WL.val (some 6) (.pointer (some ⟨N4, 0, none⟩)) (W31.alloc (.cells Z0 25)) rfl (by kernel_rfl) (by rw [hN4]; exact Segs.run_allocOf rfl Z0 (al_nd0 HZ.out)) ?_
  simp only [Act.put, List.setIfInBounds_toArray, List.set_cons_zero, List.set_cons_succ]
  generalize W31.alloc (.cells Z0 25) = W36 at K37 K39 K41 K43 B44 ⊢
  clear hN4
  have K47 := Lib.hid (K37.out.rowOther (g' := N4) (cs := C0) ne38)
  have K48 := Lib.hid (K39.out.rowOther (g' := N4) (cs := C0) ne40)
  have K49 := Lib.hid (K41.out.rowOther (g' := N4) (cs := C0) ne42)
  have K50 := Lib.hid (K43.out.row (cs := C0))
  have B51 := Lib.hid (Bl.setRow B44.out (g := N4) ge45 C0)
  refine Segs.WL.skip (W36.setRow N4 C0) rfl (by kernel_rfl) (Segs.run_storeRow rfl N4 C0 (by kernel_rfl) (by kernel_rfl) 25 Z0 K43.out (info19 NC0.out.size) (NZ.out.size.trans NC0.out.size.symm) NC0.out.one) ?_
  generalize W36.setRow N4 C0 = W46 at K47 K48 K49 K50 B51 ⊢
  refine Segs.WL.nil ?_
  go_upto_region 5 with (fail)
  refine wp_region_lit (Segs.WL.out ?_)
  refine Segs.WL.val (some 29) (.string sW) W46 rfl (by kernel_rfl) (by kernel_rfl) ?_
  simp only [Act.put, List.setIfInBounds_toArray, List.set_cons_zero, List.set_cons_succ]
  refine Segs.WL.call (some 30) 13 #[.string sW] _ rfl (by kernel_rfl) (by kernel_rfl) (REF1.out W46 (LA.out _ B51.out.1)) (fun e W52 hR => ?_)
  obtain ⟨rfl, hb⟩ := hR
  refine ⟨_, rfl, ?_⟩
  simp only [Act.put, List.setIfInBounds_toArray, List.set_cons_zero, List.set_cons_succ]
  have K53 := Lib.hid (K47.out.below hb)
  have K54 := Lib.hid (K48.out.below hb)
  have K55 := Lib.hid (K49.out.below hb)
  have K56 := Lib.hid (K50.out.below hb)
  have B57 := Lib.hid (B51.out.call hb)
  clear hb
  refine Segs.WL.val (some 31) (.pointer (some ⟨N4, 3, none⟩)) W52 rfl (by kernel_rfl) (by kernel_rfl) ?_
  simp only [Act.put, List.setIfInBounds_toArray, List.set_cons_zero, List.set_cons_succ]
  refine Segs.WL.val (some 32) (.pointer (some ⟨N4, 6, none⟩)) W52 rfl (by kernel_rfl) (by kernel_rfl) ?_
  simp only [Act.put, List.setIfInBounds_toArray, List.set_cons_zero, List.set_cons_succ]
  have K59 := Lib.hid (K53.out.other (p := ⟨N4, 6, none⟩) ne38 (.string sW))
  have K60 := Lib.hid (K54.out.other (p := ⟨N4, 6, none⟩) ne40 (.string sW))
  have K61 := Lib.hid (K55.out.other (p := ⟨N4, 6, none⟩) ne42 (.string sW))
  have K62 := Lib.hid (by have := K56.out.set 6 (.string sW); rw [CS3.out] at this; exact this : Blk (W52.setCell ⟨N4, 6, none⟩ (.string sW)) N4 25 CB)
  have B63 := Lib.hid (B57.out.setCell (p := ⟨N4, 6, none⟩) ge45 (.string sW))
  refine Segs.WL.skip (W52.setCell ⟨N4, 6, none⟩ (.string sW)) rfl (by kernel_rfl) (Segs.run_storeCell rfl N4 6 (.string sW) (.string e0) (by kernel_rfl) (by kernel_rfl) rfl (by kernel_rfl) (by rw [K56.out.cell]; exact CC3.out) (K56.out.frozen 6)) ?_
  generalize W52.setCell ⟨N4, 6, none⟩ (.string sW) = W58 at K59 K60 K61 K62 B63 ⊢
  refine Segs.WL.nil ?_
  go_upto_region 6 with (fail)
  refine wp_region_lit (Segs.WL.out ?_)
  refine Segs.WL.val (some 34) (.agg CB) W58 rfl (by kernel_rfl) (Segs.run_row 25 (.tmp 6) rfl N4 (by kernel_rfl) 25 CB _ K62.out Tryd.underlying25 rfl (info19 (NCB.out.size))) ?_
  simp only [Act.put, List.setIfInBounds_toArray, List.set_cons_zero, List.set_cons_succ]
  refine Segs.WL.call (some 35) 10 #[.agg CB] _ rfl (by kernel_rfl) (by kernel_rfl) (PUT2.out W58 (LA.out _ B63.out.1).err) (fun e W64 hR => ?_)
  obtain ⟨rfl, hb⟩ := hR
  refine ⟨_, rfl, ?_⟩
  simp only [Act.put, List.setIfInBounds_toArray, List.set_cons_zero, List.set_cons_succ]
  have K65 := Lib.hid (K59.out.below hb)
  have K66 := Lib.hid (K60.out.below hb)
  have K67 := Lib.hid (K61.out.below hb)
  have K68 := Lib.hid (K62.out.below hb)
  have B69 := Lib.hid (B63.out.call hb)
  clear hb
  refine Segs.WL.val (some 33) (.tuple #[.string tW, .int .i64 0]) W64 rfl (by kernel_rfl) (by kernel_rfl) ?_
  simp only [Act.put, List.setIfInBounds_toArray, List.set_cons_zero, List.set_cons_succ]
  refine Segs.WL.val (some 36) (.string tW) W64 rfl (by kernel_rfl) (by kernel_rfl) ?_
  simp only [Act.put, List.setIfInBounds_toArray, List.set_cons_zero, List.set_cons_succ]
  refine Segs.WL.val (some 37) (.int .i64 0) W64 rfl (by kernel_rfl) (by kernel_rfl) ?_
  simp only [Act.put, List.setIfInBounds_toArray, List.set_cons_zero, List.set_cons_succ]
  refine Segs.WL.val (some 7) (.string tW) W64 rfl (by kernel_rfl) (by kernel_rfl) ?_
  simp only [Act.put, List.setIfInBounds_toArray, List.set_cons_zero, List.set_cons_succ]
  refine Segs.WL.val (some 8) (.int .i64 0) W64 rfl (by kernel_rfl) (by kernel_rfl) ?_
  simp only [Act.put, List.setIfInBounds_toArray, List.set_cons_zero, List.set_cons_succ]
  refine Segs.WL.nil ?_
  go_upto_region 7 with (fail)
  refine wp_region_lit (Segs.WL.out ?_)
  refine Segs.WL.val (some 39) (.pointer (some ⟨N4, 3, none⟩)) W64 rfl (by kernel_rfl) (by kernel_rfl) ?_
  simp only [Act.put, List.setIfInBounds_toArray, List.set_cons_zero, List.set_cons_succ]
  refine Segs.WL.val (some 40) (.pointer (some ⟨N4, 6, none⟩)) W64 rfl (by kernel_rfl) (by kernel_rfl) ?_
  simp only [Act.put, List.setIfInBounds_toArray, List.set_cons_zero, List.set_cons_succ]
  refine Segs.WL.val (some 41) (.string sW) W64 rfl (by kernel_rfl) (Segs.run_cell 9 (.tmp 40) rfl N4 6 (by kernel_rfl) _ (isAggS _) (by rw [K68.out.cell]; exact CB3.out)) ?_
  simp only [Act.put, List.setIfInBounds_toArray, List.set_cons_zero, List.set_cons_succ]
  refine Segs.WL.call (some 42) 15 #[.string sW] _ rfl (by kernel_rfl) (by kernel_rfl) (INL.out W64 (LA.out _ B69.out.1).err) (fun e W70 hR => ?_)
  obtain ⟨rfl, hb⟩ := hR
  refine ⟨_, rfl, ?_⟩
  simp only [Act.put, List.setIfInBounds_toArray, List.set_cons_zero, List.set_cons_succ]
  have K71 := Lib.hid (K65.out.below hb)
  have K72 := Lib.hid (K66.out.below hb)
  have K73 := Lib.hid (K67.out.below hb)
  have K74 := Lib.hid (K68.out.below hb)
  have B75 := Lib.hid (B69.out.call hb)
  clear hb
  refine Segs.WL.val (some 38) (.tuple #[.agg LC, .bool true]) W70 rfl (by kernel_rfl) (by kernel_rfl) ?_
  simp only [Act.put, List.setIfInBounds_toArray, List.set_cons_zero, List.set_cons_succ]
  refine Segs.WL.val (some 43) (.agg LC) W70 rfl (by kernel_rfl) (by kernel_rfl) ?_
  simp only [Act.put, List.setIfInBounds_toArray, List.set_cons_zero, List.set_cons_succ]
  refine Segs.WL.val (some 44) (.bool true) W70 rfl (by kernel_rfl) (by kernel_rfl) ?_
  simp only [Act.put, List.setIfInBounds_toArray, List.set_cons_zero, List.set_cons_succ]
  obtain ⟨N5, hN5⟩ : ∃ n, n = W70.heap.size := ⟨_, rfl⟩
  have K77 := Lib.hid (K71.out.alloc (.cells Z0 25))
  have ne78 : N1 ≠ N5 := by have := K71.out.lt; omega
  have K79 := Lib.hid (K72.out.alloc (.cells Z0 25))
  have ne80 : N2 ≠ N5 := by have := K72.out.lt; omega
  have K81 := Lib.hid (K73.out.alloc (.cells Z0 25))
  have ne82 : N3 ≠ N5 := by have := K73.out.lt; omega
  have K83 := Lib.hid (K74.out.alloc (.cells Z0 25))
  have ne84 : N4 ≠ N5 := by have := K74.out.lt; omega
  have K85 := Lib.hid (by have := Blk.new W70 25 Z0; rw [← hN5] at this; exact this : Blk (W70.alloc (.cells Z0 25)) N5 25 Z0)
  have B86 := Lib.hid (B75.out.alloc (.cells Z0 25))
  have ge87 : w.heap.size ≤ N5 := by rw [hN5]; exact B75.out.2
  refine Segs.WL.val (some 9) (.pointer (some ⟨N5, 0, none⟩)) (W70.alloc (.cells Z0 25)) rfl (by kernel_rfl) (by rw [hN5]; exact Segs.run_allocOf rfl Z0 (al_nd0 HZ.out)) ?_
  simp only [Act.put, List.setIfInBounds_toArray, List.set_cons_zero, List.set_cons_succ]
  generalize W70.alloc (.cells Z0 25) = W76 at K77 K79 K81 K83 K85 B86 ⊢
  clear hN5
  have K89 := Lib.hid (K77.out.rowOther (g' := N5) (cs := LC) ne78)
  have K90 := Lib.hid (K79.out.rowOther (g' := N5) (cs := LC) ne80)
  have K91 := Lib.hid (K81.out.rowOther (g' := N5) (cs := LC) ne82)
  have K92 := Lib.hid (K83.out.rowOther (g' := N5) (cs := LC) ne84)
  have K93 := Lib.hid (K85.out.row (cs := LC))
  have B94 := Lib.hid (Bl.setRow B86.out (g := N5) ge87 LC)
  refine Segs.WL.skip (W76.setRow N5 LC) rfl (by kernel_rfl) (Segs.run_storeRow rfl N5 LC (by kernel_rfl) (by kernel_rfl) 25 Z0 K85.out (info19 NLC.out.size) (NZ.out.size.trans NLC.out.size.symm) NLC.out.one) ?_
  generalize W76.setRow N5 LC = W88 at K89 K90 K91 K92 K93 B94 ⊢
  refine Segs.WL.val (some 10) (.bool true) W88 rfl (by kernel_rfl) (by kernel_rfl) ?_
  simp only [Act.put, List.setIfInBounds_toArray, List.set_cons_zero, List.set_cons_succ]
  refine Segs.WL.nil ?_
  go_upto_region 8 with (fail)
  refine wp_region_lit (Segs.WL.out ?_)
  refine Segs.WL.val (some 46) (.string tW) W88 rfl (by kernel_rfl) (by kernel_rfl) ?_
  simp only [Act.put, List.setIfInBounds_toArray, List.set_cons_zero, List.set_cons_succ]
  refine Segs.WL.val (some 47) (.string tW) W88 rfl (by kernel_rfl) (by kernel_rfl) ?_
  simp only [Act.put, List.setIfInBounds_toArray, List.set_cons_zero, List.set_cons_succ]
  refine Segs.WL.val (some 48) (.string (tW ++ tW)) W88 rfl (by kernel_rfl) (by kernel_rfl) ?_
  simp only [Act.put, List.setIfInBounds_toArray, List.set_cons_zero, List.set_cons_succ]
  refine Segs.WL.val (some 49) (.string tW) W88 rfl (by kernel_rfl) (by kernel_rfl) ?_
  simp only [Act.put, List.setIfInBounds_toArray, List.set_cons_zero, List.set_cons_succ]
  refine Segs.WL.val (some 50) (.string (tW ++ tW ++ tW)) W88 rfl (by kernel_rfl) (by kernel_rfl) ?_
  simp only [Act.put, List.setIfInBounds_toArray, List.set_cons_zero, List.set_cons_succ]
  refine Segs.WL.call (some 51) 13 #[.string (tW ++ tW ++ tW)] _ rfl (by kernel_rfl) (by kernel_rfl) (RF3.out W88 (LA.out _ B94.out.1)) (fun e W95 hR => ?_)
  obtain ⟨rfl, hb⟩ := hR
  refine ⟨_, rfl, ?_⟩
  simp only [Act.put, List.setIfInBounds_toArray, List.set_cons_zero, List.set_cons_succ]
  have K96 := Lib.hid (K89.out.below hb)
  have K97 := Lib.hid (K90.out.below hb)
  have K98 := Lib.hid (K91.out.below hb)
  have K99 := Lib.hid (K92.out.below hb)
  have K100 := Lib.hid (K93.out.below hb)
  have B101 := Lib.hid (B94.out.call hb)
  clear hb
  refine Segs.WL.call (some 52) 14 #[.string RS] _ rfl (by kernel_rfl) (by kernel_rfl) (HS3.out W95) (fun e W102 hR => ?_)
  obtain ⟨rfl, hb⟩ := hR
  refine ⟨_, rfl, ?_⟩
  simp only [Act.put, List.setIfInBounds_toArray, List.set_cons_zero, List.set_cons_succ]
  have K103 := Lib.hid (K96.out.below hb)
  have K104 := Lib.hid (K97.out.below hb)
  have K105 := Lib.hid (K98.out.below hb)
  have K106 := Lib.hid (K99.out.below hb)
  have K107 := Lib.hid (K100.out.below hb)
  have B108 := Lib.hid (B101.out.call hb)
  clear hb
  refine Segs.WL.val (some 45) (.tuple #[.string HS, .bool true]) W102 rfl (by kernel_rfl) (by kernel_rfl) ?_
  simp only [Act.put, List.setIfInBounds_toArray, List.set_cons_zero, List.set_cons_succ]
  refine Segs.WL.val (some 53) (.string HS) W102 rfl (by kernel_rfl) (by kernel_rfl) ?_
  simp only [Act.put, List.setIfInBounds_toArray, List.set_cons_zero, List.set_cons_succ]
  refine Segs.WL.val (some 54) (.bool true) W102 rfl (by kernel_rfl) (by kernel_rfl) ?_
  simp only [Act.put, List.setIfInBounds_toArray, List.set_cons_zero, List.set_cons_succ]
  refine Segs.WL.val (some 11) (.string HS) W102 rfl (by kernel_rfl) (by kernel_rfl) ?_
  simp only [Act.put, List.setIfInBounds_toArray, List.set_cons_zero, List.set_cons_succ]
  refine Segs.WL.val (some 12) (.bool true) W102 rfl (by kernel_rfl) (by kernel_rfl) ?_
  simp only [Act.put, List.setIfInBounds_toArray, List.set_cons_zero, List.set_cons_succ]
  refine Segs.WL.nil ?_
  go_upto_region 9 with (fail)
  refine wp_region_lit (Segs.WL.out ?_)
  refine Segs.WL.call (some 56) 11 #[.string ⟨#[]⟩] _ rfl (by kernel_rfl) (by kernel_rfl) (GET0.out W102 (LA.out _ B108.out.1).err) (fun e W109 hR => ?_)
  obtain ⟨rfl, hb⟩ := hR
  refine ⟨_, rfl, ?_⟩
  simp only [Act.put, List.setIfInBounds_toArray, List.set_cons_zero, List.set_cons_succ]
  have K110 := Lib.hid (K103.out.below hb)
  have K111 := Lib.hid (K104.out.below hb)
  have K112 := Lib.hid (K105.out.below hb)
  have K113 := Lib.hid (K106.out.below hb)
  have K114 := Lib.hid (K107.out.below hb)
  have B115 := Lib.hid (B108.out.call hb)
  clear hb
  refine Segs.WL.val (some 55) (.tuple #[.agg Z0, .int .i64 2]) W109 rfl (by kernel_rfl) (by kernel_rfl) ?_
  simp only [Act.put, List.setIfInBounds_toArray, List.set_cons_zero, List.set_cons_succ]
  refine Segs.WL.val (some 57) (.agg Z0) W109 rfl (by kernel_rfl) (by kernel_rfl) ?_
  simp only [Act.put, List.setIfInBounds_toArray, List.set_cons_zero, List.set_cons_succ]
  refine Segs.WL.val (some 58) (.int .i64 2) W109 rfl (by kernel_rfl) (by kernel_rfl) ?_
  simp only [Act.put, List.setIfInBounds_toArray, List.set_cons_zero, List.set_cons_succ]
  obtain ⟨N6, hN6⟩ : ∃ n, n = W109.heap.size := ⟨_, rfl⟩
  have K117 := Lib.hid (K110.out.alloc (.cells Z0 25))
  have ne118 : N1 ≠ N6 := by have := K110.out.lt; omega
  have K119 := Lib.hid (K111.out.alloc (.cells Z0 25))
  have ne120 : N2 ≠ N6 := by have := K111.out.lt; omega
  have K121 := Lib.hid (K112.out.alloc (.cells Z0 25))
  have ne122 : N3 ≠ N6 := by have := K112.out.lt; omega
  have K123 := Lib.hid (K113.out.alloc (.cells Z0 25))
  have ne124 : N4 ≠ N6 := by have := K113.out.lt; omega
  have K125 := Lib.hid (K114.out.alloc (.cells Z0 25))
  have ne126 : N5 ≠ N6 := by have := K114.out.lt; omega
  have K127 := Lib.hid (by have := Blk.new W109 25 Z0; rw [← hN6] at this; exact this : Blk (W109.alloc (.cells Z0 25)) N6 25 Z0)
  have B128 := Lib.hid (B115.out.alloc (.cells Z0 25))
  have ge129 : w.heap.size ≤ N6 := by rw [hN6]; exact B115.out.2
  refine Segs.WL.val (some 13) (.pointer (some ⟨N6, 0, none⟩)) (W109.alloc (.cells Z0 25)) rfl (by kernel_rfl) (by rw [hN6]; exact Segs.run_allocOf rfl Z0 (al_nd0 HZ.out)) ?_
  simp only [Act.put, List.setIfInBounds_toArray, List.set_cons_zero, List.set_cons_succ]
  generalize W109.alloc (.cells Z0 25) = W116 at K117 K119 K121 K123 K125 K127 B128 ⊢
  clear hN6
  have K131 := Lib.hid (K117.out.rowOther (g' := N6) (cs := Z0) ne118)
  have K132 := Lib.hid (K119.out.rowOther (g' := N6) (cs := Z0) ne120)
  have K133 := Lib.hid (K121.out.rowOther (g' := N6) (cs := Z0) ne122)
  have K134 := Lib.hid (K123.out.rowOther (g' := N6) (cs := Z0) ne124)
  have K135 := Lib.hid (K125.out.rowOther (g' := N6) (cs := Z0) ne126)
  have K136 := Lib.hid (K127.out.row (cs := Z0))
  have B137 := Lib.hid (Bl.setRow B128.out (g := N6) ge129 Z0)
  refine Segs.WL.skip (W116.setRow N6 Z0) rfl (by kernel_rfl) (Segs.run_storeRow rfl N6 Z0 (by kernel_rfl) (by kernel_rfl) 25 Z0 K127.out (info19 NZ.out.size) (NZ.out.size.trans NZ.out.size.symm) NZ.out.one) ?_
  generalize W116.setRow N6 Z0 = W130 at K131 K132 K133 K134 K135 K136 B137 ⊢
  refine Segs.WL.val (some 14) (.int .i64 2) W130 rfl (by kernel_rfl) (by kernel_rfl) ?_
  simp only [Act.put, List.setIfInBounds_toArray, List.set_cons_zero, List.set_cons_succ]
  refine Segs.WL.nil ?_
  go_upto_region 10 with (fail)
  refine wp_region_lit (Segs.WL.out ?_)
  refine Segs.WL.val (some 59) (.int .i64 0) W130 rfl (by kernel_rfl) (by kernel_rfl) ?_
  simp only [Act.put, List.setIfInBounds_toArray, List.set_cons_zero, List.set_cons_succ]
  refine Segs.WL.val (some 60) (.bool true) W130 rfl (by kernel_rfl) (by kernel_rfl) ?_
  simp only [Act.put, List.setIfInBounds_toArray, List.set_cons_zero, List.set_cons_succ]
  refine Segs.WL.val (some 61) (.bool true) W130 rfl (by kernel_rfl) (by kernel_rfl) ?_
  simp only [Act.put, List.setIfInBounds_toArray, List.set_cons_zero, List.set_cons_succ]
  refine Segs.WL.val (some 62) (.string sW) W130 rfl (by kernel_rfl) (by kernel_rfl) ?_
  simp only [Act.put, List.setIfInBounds_toArray, List.set_cons_zero, List.set_cons_succ]
  obtain ⟨N7, hN7⟩ : ∃ n, n = W130.heap.size := ⟨_, rfl⟩
  have K139 := Lib.hid (K131.out.alloc (.cells (([194, 49, 118] : List UInt8).map fun b => Value.int .u8 (b.toNat : Int)).toArray 5))
  have ne140 : N1 ≠ N7 := by have := K131.out.lt; omega
  have K141 := Lib.hid (K132.out.alloc (.cells (([194, 49, 118] : List UInt8).map fun b => Value.int .u8 (b.toNat : Int)).toArray 5))
  have ne142 : N2 ≠ N7 := by have := K132.out.lt; omega
  have K143 := Lib.hid (K133.out.alloc (.cells (([194, 49, 118] : List UInt8).map fun b => Value.int .u8 (b.toNat : Int)).toArray 5))
  have ne144 : N3 ≠ N7 := by have := K133.out.lt; omega
  have K145 := Lib.hid (K134.out.alloc (.cells (([194, 49, 118] : List UInt8).map fun b => Value.int .u8 (b.toNat : Int)).toArray 5))
  have ne146 : N4 ≠ N7 := by have := K134.out.lt; omega
  have K147 := Lib.hid (K135.out.alloc (.cells (([194, 49, 118] : List UInt8).map fun b => Value.int .u8 (b.toNat : Int)).toArray 5))
  have ne148 : N5 ≠ N7 := by have := K135.out.lt; omega
  have K149 := Lib.hid (K136.out.alloc (.cells (([194, 49, 118] : List UInt8).map fun b => Value.int .u8 (b.toNat : Int)).toArray 5))
  have ne150 : N6 ≠ N7 := by have := K136.out.lt; omega
  have K151 := Lib.hid (by have := Blk.new W130 5 (([194, 49, 118] : List UInt8).map fun b => Value.int .u8 (b.toNat : Int)).toArray; rw [← hN7] at this; exact this : Blk (W130.alloc (.cells (([194, 49, 118] : List UInt8).map fun b => Value.int .u8 (b.toNat : Int)).toArray 5)) N7 5 (([194, 49, 118] : List UInt8).map fun b => Value.int .u8 (b.toNat : Int)).toArray)
  have B152 := Lib.hid (B137.out.alloc (.cells (([194, 49, 118] : List UInt8).map fun b => Value.int .u8 (b.toNat : Int)).toArray 5))
  have ge153 : w.heap.size ≤ N7 := by rw [hN7]; exact B137.out.2
  refine Segs.WL.val (some 63) (.slice (some ⟨N7, 0, none⟩) 3 3) (W130.alloc (.cells (([194, 49, 118] : List UInt8).map fun b => Value.int .u8 (b.toNat : Int)).toArray 5)) rfl (by kernel_rfl) (by rw [hN7]; exact Segs.run_slice_of 47 5 3 _ rfl _ Tryd.underlying47 (by kernel_rfl)) ?_
  simp only [Act.put, List.setIfInBounds_toArray, List.set_cons_zero, List.set_cons_succ]
  generalize W130.alloc (.cells (([194, 49, 118] : List UInt8).map fun b => Value.int .u8 (b.toNat : Int)).toArray 5) = W138 at K139 K141 K143 K145 K147 K149 K151 B152 ⊢
  clear hN7
  refine Segs.WL.val (some 64) (.string sW) W138 rfl (by kernel_rfl) (run_conv_lit rfl (by kernel_rfl) (show Lit _ N7 [194, 49, 118] from K151.out) rfl) ?_
  simp only [Act.put, List.setIfInBounds_toArray, List.set_cons_zero, List.set_cons_succ]
  refine Segs.WL.val (some 65) (.bool true) W138 rfl (by kernel_rfl) (run_eqs rfl sW sW (by kernel_rfl) (by kernel_rfl) _ (by first | rfl | exact decide_eq_true rfl)) ?_
  simp only [Act.put, List.setIfInBounds_toArray, List.set_cons_zero, List.set_cons_succ]
  refine Segs.WL.val (some 66) (.bool true) W138 rfl (by kernel_rfl) (by kernel_rfl) ?_
  simp only [Act.put, List.setIfInBounds_toArray, List.set_cons_zero, List.set_cons_succ]
  refine Segs.WL.val (some 67) (.bool true) W138 rfl (by kernel_rfl) (by kernel_rfl) ?_
  simp only [Act.put, List.setIfInBounds_toArray, List.set_cons_zero, List.set_cons_succ]
  refine Segs.WL.val (some 68) (.agg LC) W138 rfl (by kernel_rfl) (Segs.run_row 25 (.tmp 4) rfl N3 (by kernel_rfl) 25 LC _ K143.out Tryd.underlying25 rfl (info19 (NLC.out.size))) ?_
  simp only [Act.put, List.setIfInBounds_toArray, List.set_cons_zero, List.set_cons_succ]
  refine Segs.WL.val (some 69) (.agg LC) W138 rfl (by kernel_rfl) (Segs.run_row 25 (.tmp 1) rfl N2 (by kernel_rfl) 25 LC _ K141.out Tryd.underlying25 rfl (info19 (NLC.out.size))) ?_
  simp only [Act.put, List.setIfInBounds_toArray, List.set_cons_zero, List.set_cons_succ]
  refine Segs.WL.val (some 70) (.bool true) W138 rfl (by kernel_rfl) (run_eql_of rfl LC LC HLC.out HLC.out (by kernel_rfl) (by kernel_rfl) rfl rfl _ (by decide +kernel)) ?_
  simp only [Act.put, List.setIfInBounds_toArray, List.set_cons_zero, List.set_cons_succ]
  refine Segs.WL.val (some 71) (.bool true) W138 rfl (by kernel_rfl) (by kernel_rfl) ?_
  simp only [Act.put, List.setIfInBounds_toArray, List.set_cons_zero, List.set_cons_succ]
  refine Segs.WL.val (some 72) (.bool true) W138 rfl (by kernel_rfl) (by kernel_rfl) ?_
  simp only [Act.put, List.setIfInBounds_toArray, List.set_cons_zero, List.set_cons_succ]
  refine Segs.WL.val (some 73) (.int .i64 0) W138 rfl (by kernel_rfl) (by kernel_rfl) ?_
  simp only [Act.put, List.setIfInBounds_toArray, List.set_cons_zero, List.set_cons_succ]
  refine Segs.WL.val (some 74) (.bool true) W138 rfl (by kernel_rfl) (by kernel_rfl) ?_
  simp only [Act.put, List.setIfInBounds_toArray, List.set_cons_zero, List.set_cons_succ]
  refine Segs.WL.val (some 75) (.bool true) W138 rfl (by kernel_rfl) (by kernel_rfl) ?_
  simp only [Act.put, List.setIfInBounds_toArray, List.set_cons_zero, List.set_cons_succ]
  refine Segs.WL.val (some 76) (.bool true) W138 rfl (by kernel_rfl) (by kernel_rfl) ?_
  simp only [Act.put, List.setIfInBounds_toArray, List.set_cons_zero, List.set_cons_succ]
  refine Segs.WL.val (some 77) (.int .i64 0) W138 rfl (by kernel_rfl) (by kernel_rfl) ?_
  simp only [Act.put, List.setIfInBounds_toArray, List.set_cons_zero, List.set_cons_succ]
  refine Segs.WL.val (some 78) (.bool true) W138 rfl (by kernel_rfl) (by kernel_rfl) ?_
  simp only [Act.put, List.setIfInBounds_toArray, List.set_cons_zero, List.set_cons_succ]
  refine Segs.WL.val (some 79) (.bool true) W138 rfl (by kernel_rfl) (by kernel_rfl) ?_
  simp only [Act.put, List.setIfInBounds_toArray, List.set_cons_zero, List.set_cons_succ]
  refine Segs.WL.val (some 80) (.bool true) W138 rfl (by kernel_rfl) (by kernel_rfl) ?_
  simp only [Act.put, List.setIfInBounds_toArray, List.set_cons_zero, List.set_cons_succ]
  refine Segs.WL.val (some 81) (.bool true) W138 rfl (by kernel_rfl) (by kernel_rfl) ?_
  simp only [Act.put, List.setIfInBounds_toArray, List.set_cons_zero, List.set_cons_succ]
  refine Segs.WL.val (some 82) (.bool true) W138 rfl (by kernel_rfl) (by kernel_rfl) ?_
  simp only [Act.put, List.setIfInBounds_toArray, List.set_cons_zero, List.set_cons_succ]
  refine Segs.WL.val (some 83) (.bool true) W138 rfl (by kernel_rfl) (by kernel_rfl) ?_
  simp only [Act.put, List.setIfInBounds_toArray, List.set_cons_zero, List.set_cons_succ]
  refine Segs.WL.val (some 84) (.agg LC) W138 rfl (by kernel_rfl) (Segs.run_row 25 (.tmp 9) rfl N5 (by kernel_rfl) 25 LC _ K147.out Tryd.underlying25 rfl (info19 (NLC.out.size))) ?_
  simp only [Act.put, List.setIfInBounds_toArray, List.set_cons_zero, List.set_cons_succ]
  refine Segs.WL.val (some 85) (.agg LC) W138 rfl (by kernel_rfl) (Segs.run_row 25 (.tmp 1) rfl N2 (by kernel_rfl) 25 LC _ K141.out Tryd.underlying25 rfl (info19 (NLC.out.size))) ?_
  simp only [Act.put, List.setIfInBounds_toArray, List.set_cons_zero, List.set_cons_succ]
  refine Segs.WL.val (some 86) (.bool true) W138 rfl (by kernel_rfl) (run_eql_of rfl LC LC HLC.out HLC.out (by kernel_rfl) (by kernel_rfl) rfl rfl _ (by decide +kernel)) ?_
  simp only [Act.put, List.setIfInBounds_toArray, List.set_cons_zero, List.set_cons_succ]
  refine Segs.WL.val (some 87) (.bool true) W138 rfl (by kernel_rfl) (by kernel_rfl) ?_
  simp only [Act.put, List.setIfInBounds_toArray, List.set_cons_zero, List.set_cons_succ]
  refine Segs.WL.val (some 88) (.bool true) W138 rfl (by kernel_rfl) (by kernel_rfl) ?_
  simp only [Act.put, List.setIfInBounds_toArray, List.set_cons_zero, List.set_cons_succ]
  refine Segs.WL.val (some 89) (.bool true) W138 rfl (by kernel_rfl) (by kernel_rfl) ?_
  simp only [Act.put, List.setIfInBounds_toArray, List.set_cons_zero, List.set_cons_succ]
  refine Segs.WL.val (some 90) (.bool true) W138 rfl (by kernel_rfl) (by kernel_rfl) ?_
  simp only [Act.put, List.setIfInBounds_toArray, List.set_cons_zero, List.set_cons_succ]
  refine Segs.WL.val (some 91) (.bool true) W138 rfl (by kernel_rfl) (by kernel_rfl) ?_
  simp only [Act.put, List.setIfInBounds_toArray, List.set_cons_zero, List.set_cons_succ]
  refine Segs.WL.val (some 92) (.string HS) W138 rfl (by kernel_rfl) (by kernel_rfl) ?_
  simp only [Act.put, List.setIfInBounds_toArray, List.set_cons_zero, List.set_cons_succ]
  refine Segs.WL.val (some 93) (.string tW) W138 rfl (by kernel_rfl) (by kernel_rfl) ?_
  simp only [Act.put, List.setIfInBounds_toArray, List.set_cons_zero, List.set_cons_succ]
  refine Segs.WL.val (some 94) (.string tW) W138 rfl (by kernel_rfl) (by kernel_rfl) ?_
  simp only [Act.put, List.setIfInBounds_toArray, List.set_cons_zero, List.set_cons_succ]
  refine Segs.WL.val (some 95) (.string (tW ++ tW)) W138 rfl (by kernel_rfl) (by kernel_rfl) ?_
  simp only [Act.put, List.setIfInBounds_toArray, List.set_cons_zero, List.set_cons_succ]
  refine Segs.WL.val (some 96) (.string tW) W138 rfl (by kernel_rfl) (by kernel_rfl) ?_
  simp only [Act.put, List.setIfInBounds_toArray, List.set_cons_zero, List.set_cons_succ]
  refine Segs.WL.val (some 97) (.string (tW ++ tW ++ tW)) W138 rfl (by kernel_rfl) (by kernel_rfl) ?_
  simp only [Act.put, List.setIfInBounds_toArray, List.set_cons_zero, List.set_cons_succ]
  obtain ⟨N8, hN8⟩ : ∃ n, n = W138.heap.size := ⟨_, rfl⟩
  have K155 := Lib.hid (K139.out.alloc (.cells #[.string (tW ++ tW ++ tW)] 9))
  have ne156 : N1 ≠ N8 := by have := K139.out.lt; omega
  have K157 := Lib.hid (K141.out.alloc (.cells #[.string (tW ++ tW ++ tW)] 9))
  have ne158 : N2 ≠ N8 := by have := K141.out.lt; omega
  have K159 := Lib.hid (K143.out.alloc (.cells #[.string (tW ++ tW ++ tW)] 9))
  have ne160 : N3 ≠ N8 := by have := K143.out.lt; omega
  have K161 := Lib.hid (K145.out.alloc (.cells #[.string (tW ++ tW ++ tW)] 9))
  have ne162 : N4 ≠ N8 := by have := K145.out.lt; omega
  have K163 := Lib.hid (K147.out.alloc (.cells #[.string (tW ++ tW ++ tW)] 9))
  have ne164 : N5 ≠ N8 := by have := K147.out.lt; omega
  have K165 := Lib.hid (K149.out.alloc (.cells #[.string (tW ++ tW ++ tW)] 9))
  have ne166 : N6 ≠ N8 := by have := K149.out.lt; omega
  have K167 := Lib.hid (K151.out.alloc (.cells #[.string (tW ++ tW ++ tW)] 9))
  have ne168 : N7 ≠ N8 := by have := K151.out.lt; omega
  have K169 := Lib.hid (by have := Blk.new W138 9 #[.string (tW ++ tW ++ tW)]; rw [← hN8] at this; exact this : Blk (W138.alloc (.cells #[.string (tW ++ tW ++ tW)] 9)) N8 9 #[.string (tW ++ tW ++ tW)])
  have B170 := Lib.hid (B152.out.alloc (.cells #[.string (tW ++ tW ++ tW)] 9))
  have ge171 : w.heap.size ≤ N8 := by rw [hN8]; exact B152.out.2
  refine Segs.WL.val (some 98) (.slice (some ⟨N8, 0, none⟩) 1 1) (W138.alloc (.cells #[.string (tW ++ tW ++ tW)] 9)) rfl (by kernel_rfl) (by rw [hN8]; exact Segs.run_slice_of 42 9 1 _ rfl _ Tryd.underlying42 (by kernel_rfl)) ?_
  simp only [Act.put, List.setIfInBounds_toArray, List.set_cons_zero, List.set_cons_succ]
  generalize W138.alloc (.cells #[.string (tW ++ tW ++ tW)] 9) = W154 at K155 K157 K159 K161 K163 K165 K167 K169 B170 ⊢
  clear hN8
  refine Segs.WL.call (some 99) 16 #[.slice (some ⟨N8, 0, none⟩) 1 1] _ rfl (by kernel_rfl) (by kernel_rfl) (HHS.out ▸ of_one (tW ++ tW ++ tW) N8 W154 (LA.out _ B170.out.1).sha (by decide) K169.out) (fun e W172 hR => ?_)
  obtain ⟨rfl, hb⟩ := hR
  refine ⟨_, rfl, ?_⟩
  simp only [Act.put, List.setIfInBounds_toArray, List.set_cons_zero, List.set_cons_succ]
  have K173 := Lib.hid (K155.out.below hb)
  have K174 := Lib.hid (K157.out.below hb)
  have K175 := Lib.hid (K159.out.below hb)
  have K176 := Lib.hid (K161.out.below hb)
  have K177 := Lib.hid (K163.out.below hb)
  have K178 := Lib.hid (K165.out.below hb)
  have K179 := Lib.hid (K167.out.below hb)
  have K180 := Lib.hid (K169.out.below hb)
  have B181 := Lib.hid (B170.out.call hb)
  clear hb
  refine Segs.WL.val (some 100) (.bool true) W172 rfl (by kernel_rfl) (run_eqs rfl HS HS (by kernel_rfl) (by kernel_rfl) _ (by first | rfl | exact decide_eq_true rfl)) ?_
  simp only [Act.put, List.setIfInBounds_toArray, List.set_cons_zero, List.set_cons_succ]
  refine Segs.WL.val (some 101) (.bool true) W172 rfl (by kernel_rfl) (by kernel_rfl) ?_
  simp only [Act.put, List.setIfInBounds_toArray, List.set_cons_zero, List.set_cons_succ]
  refine Segs.WL.val (some 102) (.bool true) W172 rfl (by kernel_rfl) (by kernel_rfl) ?_
  simp only [Act.put, List.setIfInBounds_toArray, List.set_cons_zero, List.set_cons_succ]
  refine Segs.WL.val (some 103) (.int .i64 2) W172 rfl (by kernel_rfl) (by kernel_rfl) ?_
  simp only [Act.put, List.setIfInBounds_toArray, List.set_cons_zero, List.set_cons_succ]
  refine Segs.WL.val (some 104) (.bool true) W172 rfl (by kernel_rfl) (by kernel_rfl) ?_
  simp only [Act.put, List.setIfInBounds_toArray, List.set_cons_zero, List.set_cons_succ]
  refine Segs.WL.val (some 105) (.bool true) W172 rfl (by kernel_rfl) (by kernel_rfl) ?_
  simp only [Act.put, List.setIfInBounds_toArray, List.set_cons_zero, List.set_cons_succ]
  refine Segs.WL.val (some 106) (.bool true) W172 rfl (by kernel_rfl) (by kernel_rfl) ?_
  simp only [Act.put, List.setIfInBounds_toArray, List.set_cons_zero, List.set_cons_succ]
  refine Segs.WL.val (some 107) (.agg CB) W172 rfl (by kernel_rfl) (Segs.run_row 25 (.tmp 6) rfl N4 (by kernel_rfl) 25 CB _ K176.out Tryd.underlying25 rfl (info19 (NCB.out.size))) ?_
  simp only [Act.put, List.setIfInBounds_toArray, List.set_cons_zero, List.set_cons_succ]
  refine Segs.WL.call (some 108) 12 #[.agg CB] _ rfl (by kernel_rfl) (by kernel_rfl) (VAL.out W172 (LA.out _ B181.out.1).err) (fun e W182 hR => ?_)
  obtain ⟨rfl, hb⟩ := hR
  refine ⟨_, rfl, ?_⟩
  simp only [Act.put, List.setIfInBounds_toArray, List.set_cons_zero, List.set_cons_succ]
  have K183 := Lib.hid (K173.out.below hb)
  have K184 := Lib.hid (K174.out.below hb)
  have K185 := Lib.hid (K175.out.below hb)
  have K186 := Lib.hid (K176.out.below hb)
  have K187 := Lib.hid (K177.out.below hb)
  have K188 := Lib.hid (K178.out.below hb)
  have K189 := Lib.hid (K179.out.below hb)
  have K190 := Lib.hid (K180.out.below hb)
  have B191 := Lib.hid (B181.out.call hb)
  clear hb
  refine Segs.WL.val (some 109) (.bool true) W182 rfl (by kernel_rfl) (by kernel_rfl) ?_
  simp only [Act.put, List.setIfInBounds_toArray, List.set_cons_zero, List.set_cons_succ]
  refine Segs.WL.val (some 110) (.bool true) W182 rfl (by kernel_rfl) (by kernel_rfl) ?_
  simp only [Act.put, List.setIfInBounds_toArray, List.set_cons_zero, List.set_cons_succ]
  refine Segs.WL.val (some 111) (.agg C9) W182 rfl (by kernel_rfl) (Segs.run_built0 25 _ rfl C9 (by simp only [List.map_toArray, List.map_cons, List.map_nil]; exact built_kind 9 rfl HC9.out)) ?_
  simp only [Act.put, List.setIfInBounds_toArray, List.set_cons_zero, List.set_cons_succ]
  refine Segs.WL.call (some 112) 12 #[.agg C9] _ rfl (by kernel_rfl) (by kernel_rfl) (VA9.out W182 (LA.out _ B191.out.1).err) (fun e W192 hR => ?_)
  obtain ⟨rfl, hb⟩ := hR
  refine ⟨_, rfl, ?_⟩
  simp only [Act.put, List.setIfInBounds_toArray, List.set_cons_zero, List.set_cons_succ]
  have K193 := Lib.hid (K183.out.below hb)
  have K194 := Lib.hid (K184.out.below hb)
  have K195 := Lib.hid (K185.out.below hb)
  have K196 := Lib.hid (K186.out.below hb)
  have K197 := Lib.hid (K187.out.below hb)
  have K198 := Lib.hid (K188.out.below hb)
  have K199 := Lib.hid (K189.out.below hb)
  have K200 := Lib.hid (K190.out.below hb)
  have B201 := Lib.hid (B191.out.call hb)
  clear hb
  refine Segs.WL.val (some 113) (.bool true) W192 rfl (by kernel_rfl) (by kernel_rfl) ?_
  simp only [Act.put, List.setIfInBounds_toArray, List.set_cons_zero, List.set_cons_succ]
  refine Segs.WL.val (some 114) (.bool true) W192 rfl (by kernel_rfl) (by kernel_rfl) ?_
  simp only [Act.put, List.setIfInBounds_toArray, List.set_cons_zero, List.set_cons_succ]
  refine Segs.WL.val (some 115) (.bool true) W192 rfl (by kernel_rfl) (by kernel_rfl) ?_
  simp only [Act.put, List.setIfInBounds_toArray, List.set_cons_zero, List.set_cons_succ]
  refine Segs.WL.val (some 116) (.agg CB) W192 rfl (by kernel_rfl) (Segs.run_row 25 (.tmp 6) rfl N4 (by kernel_rfl) 25 CB _ K196.out Tryd.underlying25 rfl (info19 (NCB.out.size))) ?_
  simp only [Act.put, List.setIfInBounds_toArray, List.set_cons_zero, List.set_cons_succ]
  refine Segs.WL.call (some 117) 18 #[.agg CB] _ rfl (by kernel_rfl) (by kernel_rfl) (HSH.out W192 (LA.out _ B201.out.1).err) (fun e W202 hR => ?_)
  obtain ⟨vH, rfl, hv, hb⟩ := hR
  refine ⟨_, rfl, ?_⟩
  simp only [Act.put, List.setIfInBounds_toArray, List.set_cons_zero, List.set_cons_succ]
  have K203 := Lib.hid (K193.out.below hb)
  have K204 := Lib.hid (K194.out.below hb)
  have K205 := Lib.hid (K195.out.below hb)
  have K206 := Lib.hid (K196.out.below hb)
  have K207 := Lib.hid (K197.out.below hb)
  have K208 := Lib.hid (K198.out.below hb)
  have K209 := Lib.hid (K199.out.below hb)
  have K210 := Lib.hid (K200.out.below hb)
  have B211 := Lib.hid (B201.out.call hb)
  obtain ⟨aH, qH, rfl, _, _⟩ := Sl.of_own (xs := []) hv
  clear hb
  refine Segs.WL.val (some 118) (.int .i64 0) W202 rfl (by kernel_rfl) (by kernel_rfl) ?_
  simp only [Act.put, List.setIfInBounds_toArray, List.set_cons_zero, List.set_cons_succ]
  refine Segs.WL.val (some 119) (.bool true) W202 rfl (by kernel_rfl) (by kernel_rfl) ?_
  simp only [Act.put, List.setIfInBounds_toArray, List.set_cons_zero, List.set_cons_succ]
  refine Segs.WL.val (some 120) (.bool true) W202 rfl (by kernel_rfl) (by kernel_rfl) ?_
  simp only [Act.put, List.setIfInBounds_toArray, List.set_cons_zero, List.set_cons_succ]
  refine Segs.WL.val (some 0) (.bool true) W202 rfl (by kernel_rfl) (by kernel_rfl) ?_
  simp only [Act.put, List.setIfInBounds_toArray, List.set_cons_zero, List.set_cons_succ]
  refine Segs.WL.nil ?_
  go_wp2_with fail
  go_ret
  exact ⟨rfl, B211.out.1⟩
end Go.Proofs.YtljadanalcfdeaaDoor
namespace Go.Proofs.Nib
theorem u8_back {a b : UInt8} (ha : a ≤ 15) (hb : b ≤ 15) : (a * 16 + b) / 16 = a ∧ (a * 16 + b) % 16 = b := by
  rw [UInt8.le_iff_toNat_le] at ha hb
  simp at ha hb
  constructor <;> apply UInt8.toNat_inj.1 <;> simp <;> omega
theorem path_pack_even : ∀ (n : Nat) (l : List UInt8), l.length = 2 * n → valid l = true → path (pack l) = l
  | 0, l, h, _ => by
    have : l = [] := List.eq_nil_of_length_eq_zero (by omega)
    subst this
    rfl
  | n + 1, l, h, hv => by
    match l, h, hv with
    | a :: b :: r, h, hv =>
      simp only [valid, List.all_cons, Bool.and_eq_true, decide_eq_true_eq] at hv
      have := u8_back hv.1 hv.2.1
      simp only [pack, path, this.1, this.2]
      rw [path_pack_even n r (by simp at h; omega) (by simpa [valid] using hv.2.2)]
theorem get_put (p : List UInt8) (leaf : Bool) (h : valid p = true) : get (put p leaf) = some (p, leaf) := by
  unfold get put
  have hl : (front p.length leaf ++ p).length = 2 * ((1 + p.length / 2)) := by
    rw [List.length_append, front_length]
    split <;> omega
  rw [path_pack_even _ _ hl (by rw [valid_append, valid_front, h]; rfl)]
  unfold front
  split
  · cases leaf <;> rfl
  · cases leaf <;> rfl
end Go.Proofs.Nib
namespace Go.Proofs.YtljadanalcfdeaaDoor
open Go.RowKit Go.Proofs.Nod
/-- A text that is one item. -/
def Item (x : ByteArray) : Prop := ∃ l f n, Rlp.first x.data.toList = .ok (l, f, n) ∧ f + n = x.size
theorem textB_item (b : ByteArray) (h : b.size ≤ 1048576) : Item (textB b) := by
  obtain ⟨f, n, h1, h2, _⟩ := Rlp.first_whole b.data.toList (by simpa using h)
  exact ⟨false, f, n, h1, by unfold textB; rw [Nib.bs_size]; exact h2⟩
theorem first_listB (xs : List ByteArray) (h : (datas xs).flatten.length ≤ 1048576) : Rlp.first (listB xs).data.toList = .ok (true, (Rlp.head 192 (datas xs).flatten.length).length, (datas xs).flatten.length) := Rlp.first_list_body _ h
theorem listB_size (xs : List ByteArray) : (listB xs).size = (Rlp.head 192 (datas xs).flatten.length).length + (datas xs).flatten.length := by
  unfold listB
  rw [Nib.bs_size]
  show (Rlp.head 192 (datas xs).flatten.length ++ (datas xs).flatten).length = _
  rw [List.length_append]
theorem listB_item (xs : List ByteArray) (h : (datas xs).flatten.length ≤ 1048576) : Item (listB xs) := ⟨_, _, _, first_listB xs h, (listB_size xs).symm⟩
theorem itemsB_rows (s : ByteArray) : itemsB s = (rows s).map (·.map Nib.bs) := by
  unfold itemsB
  rcases hr : rows s with _ | xs
  · have := rows_none hr
    rw [if_neg]
    · rfl
    · intro h
      apply this
      intro x hx
      have := List.all_eq_true.1 h x hx
      simpa using this
  · rw [rows_some hr, if_pos]
    · simp [Function.comp_def]
    · simp
theorem its_items : ∀ (xs : List ByteArray), (∀ x ∈ xs, Item x) → ∀ m, (datas xs).flatten.length ≤ m → Rlp.its m (datas xs).flatten = some (datas xs)
  | [], _, m, _ => Rlp.its_nil m
  | x :: xs, h, m, hm => by
    obtain ⟨l, f, n, h1, h2⟩ := h x (by simp)
    have hx : 1 ≤ x.data.toList.length := by
      rcases hd : x.data.toList with _ | ⟨a, r⟩
      · rw [hd] at h1; cases h1
      · simp
    have e1 := Rlp.its_one x.data.toList.length x.data.toList l f n hx h1 (by simpa using h2)
    have e2 := its_items xs (fun y hy => h y (by simp [hy])) (datas xs).flatten.length (Nat.le_refl _)
    have hd : (datas (x :: xs)).flatten = x.data.toList ++ (datas xs).flatten := rfl
    rw [hd] at hm ⊢
    rw [List.length_append] at hm
    rw [Rlp.its_append x.data.toList.length m _ _ _ (Nat.le_refl _) hm e1]
    rw [Rlp.its_fuel m (datas xs).flatten.length _ (by omega) (Nat.le_refl _), e2]
    rfl
theorem itemsB_items (xs : List ByteArray) (h : ∀ x ∈ xs, Item x) : itemsB (Nib.bs (datas xs).flatten) = some xs := by
  rw [itemsB_rows]
  unfold rows
  rw [Nib.bs_size, Nib.bs_data, its_items xs h _ (Nat.le_refl _)]
  show some ((datas xs).map Nib.bs) = some xs
  congr 1
  unfold datas
  rw [List.map_map]
  have : (Nib.bs ∘ fun x : ByteArray => x.data.toList) = id := by funext x; rfl
  rw [this, List.map_id]
theorem splitB_list (xs : List ByteArray) (h : (datas xs).flatten.length ≤ 1048576) : splitB (listB xs) = some (true, Nib.bs (datas xs).flatten) := by
  unfold splitB
  rw [first_listB xs h]
  simp only [Option.some.injEq, Prod.mk.injEq, true_and]
  apply ByteArray.ext
  apply Array.toList_inj.1
  rw [Lib.extract_data]
  show ((Rlp.head 192 (datas xs).flatten.length ++ (datas xs).flatten).drop _).take _ = (datas xs).flatten
  simp
  rw [← List.length_flatten, List.take_length]
theorem readText_text (b : ByteArray) (h : b.size ≤ 1048576) : readText (textB b) = some b := by
  obtain ⟨f, n, h1, h2, h3⟩ := Rlp.first_whole b.data.toList (by simpa using h)
  unfold readText splitB
  rw [show (textB b).data.toList = Rlp.text b.data.toList from rfl, h1]
  simp only [Option.some.injEq]
  apply ByteArray.ext
  apply Array.toList_inj.1
  rw [Lib.extract_data]
  rw [← h3]
  unfold Rlp.mid
  rw [List.drop_take]
  rfl
/-- What is known of what is got. -/
theorem g_facts {s : ByteArray} {m : Nd} (h : gB s = some m) : validB m = true ∧ bytesB m = s ∧ m.refs.length = 16 ∧ m.path.size ≤ 2 * s.size ∧ m.value.size ≤ s.size ∧ ∀ r ∈ rfs m, r.size < s.size := by
  rw [show gB s = getK itemsB gB s from getB_eq s] at h
  unfold getK at h
  split at h
  · cases h
  · next n hn =>
    split at h
    · next hv =>
      cases h
      have h1 := read_facts hn
      exact ⟨hv.1, hv.2, h1.1, h1.2.1, h1.2.2, fun r hr => (refs_lt hn).2 r (by rw [rfs_eq _ h1.1] at hr; exact hr)⟩
    · cases h
theorem in_get {r : ByteArray} {m : Nd} (h : inB r = some m) : r.size < 32 ∧ gB r = some m ∧ m.kind ≠ 0 := by
  unfold inB inlineK at h
  split at h
  · cases h
  · next h32 =>
    rcases hx : gB r with _ | y
    · simp [hx] at h
    · simp only [hx] at h
      split at h
      · cases h
      · next hk => cases h; exact ⟨by omega, rfl, hk⟩
theorem bytes_list (n : Nd) (h0 : n.kind ≠ 0) (h1 : 0 ≤ n.kind ∧ n.kind ≤ 3) : ∃ xs, bytesB n = listB xs := by
  unfold bytesB
  by_cases h : n.kind = 1
  · exact ⟨_, if_pos h⟩
  · rw [if_neg h]
    by_cases h : n.kind = 2
    · exact ⟨_, if_pos h⟩
    · rw [if_neg h]
      exact ⟨_, if_pos (by omega)⟩
/-- A ref that may be is one item. -/
theorem ref_item {r : ByteArray} (h : (rfrB r).isSome = true) : Item r ∧ r.size ≤ 33 ∧ r ≠ textB e0 := by
  unfold rfrB refersK at h
  by_cases hh : (hashB r).isSome = true
  · obtain ⟨x, hx⟩ := Option.isSome_iff_exists.1 hh
    have hs := hashB_size hx
    have hr : textB x = r := by
      unfold hashB at hx
      split at hx
      · next k => cases hx; exact k.2
      · cases hx
    refine ⟨?_, by omega, ?_⟩
    · rw [← hr]; exact textB_item x (by omega)
    · intro e
      have : (textB e0).size = 1 := by decide +kernel
      rw [e] at hs
      omega
  · rw [if_neg hh] at h
    obtain ⟨k, hk⟩ := Option.isSome_iff_exists.1 h
    obtain ⟨m, hm, _⟩ := Option.map_eq_some_iff.1 hk
    obtain ⟨h1, h2, h3⟩ := in_get (show inB r = some m from hm)
    obtain ⟨g1, g2, g3, _⟩ := g_facts h2
    have hf := valid_facts g1 g3
    obtain ⟨xs, hxs⟩ := bytes_list m h3 ⟨hf.1, hf.2.1⟩
    rw [g2] at hxs
    have hl := listB_size xs
    rw [← hxs] at hl
    refine ⟨?_, by omega, ?_⟩
    · rw [hxs]
      exact listB_item xs (by omega)
    · intro e
      have : gB (textB e0) = some zeroN := by decide +kernel
      rw [e, this] at h2
      cases h2
      exact h3 rfl
theorem readItems_17 (l : List ByteArray) (h : l.length = 17) : readItems l = (readText (l.getLastD e0)).map (fun v => ⟨3, e0, v, (l.take 16).map (fun r => if r = textB e0 then e0 else r)⟩) := by
  rcases l with _ | ⟨a, _ | ⟨b, _ | ⟨c, r⟩⟩⟩
  · simp at h
  · simp at h
  · simp at h
  · unfold readItems
    rw [if_pos h]
theorem datas_le (xs : List ByteArray) (m : Nat) (h : ∀ x ∈ xs, x.size ≤ m) : (datas xs).flatten.length ≤ xs.length * m := by
  have := flatten_le (datas xs) m (fun x hx => by obtain ⟨y, hy, rfl⟩ := List.mem_map.1 hx; have := h y hy; simpa using this)
  simpa [datas] using this
/-- The items of a node's bytes. -/
theorem read_list (xs : List ByteArray) (h : ∀ x ∈ xs, Item x) (hs : (datas xs).flatten.length ≤ 1048576) : readB itemsB (listB xs) = readItems xs := by
  unfold readB
  rw [splitB_list xs hs]
  simp only [itemsB_items xs h]
theorem back_read (n : Nd) (h : validB n = true) (h16 : n.refs.length = 16) : readB itemsB (bytesB n) = some n ∧ (bytesB n).size ≤ 700 ∧ Item (bytesB n) := by
  have hf := valid_facts h h16
  have hps := pathB_size n.path
  have hts := textB_size n.value
  by_cases h0 : n.kind = 0
  · rw [validB0 n h0] at h
    rw [of_decide_eq_true h]
    refine ⟨by decide +kernel, by decide +kernel, ?_⟩
    exact textB_item e0 (by decide)
  by_cases h1 : n.kind = 1
  · have hb : bytesB n = listB [pathB n.path true, textB n.value] := by unfold bytesB; rw [if_pos h1]
    have hn : n = leafN n.path n.value := by
      rw [validB1 n h1] at h
      simp only [Bool.and_eq_true, decide_eq_true_eq] at h
      exact h.1
    have hx : ∀ x ∈ [pathB n.path true, textB n.value], Item x ∧ x.size ≤ 300 := by
      intro x hx
      rcases List.mem_cons.1 hx with rfl | hx
      · have := hps true
        exact ⟨textB_item _ (by rw [Nib.bs_size, Nib.put_length]; simp; omega), by omega⟩
      · rw [List.mem_singleton.1 hx]
        exact ⟨textB_item _ (by omega), by omega⟩
    have hl : (datas [pathB n.path true, textB n.value]).flatten.length ≤ 600 := by
      have := datas_le [pathB n.path true, textB n.value] 300 (fun x h => (hx x h).2)
      simpa using this
    rw [hb]
    refine ⟨?_, ?_, listB_item _ (by omega)⟩
    · rw [read_list _ (fun x h => (hx x h).1) (by omega)]
      unfold readItems
      have hr : readText (pathB n.path true) = some (Nib.bs (Nib.put n.path.data.toList true)) := readText_text _ (by rw [Nib.bs_size, Nib.put_length]; simp; omega)
      simp only [hr]
      rw [Nib.bs_data, Nib.get_put _ _ (hf.2.2.2.2 (.inl h1))]
      simp only
      rw [readText_text _ (by omega)]
      show some (⟨1, Nib.bs n.path.data.toList, n.value, List.replicate 16 e0⟩ : Nd) = some n
      rw [Nib.bs_of]
      exact congrArg some hn.symm
    · have h3 := listB_size [pathB n.path true, textB n.value]
      have h4 := Rlp.head_length 192 (datas [pathB n.path true, textB n.value]).flatten.length
      omega
  by_cases h2 : n.kind = 2
  · have hb : bytesB n = listB [pathB n.path false, rf n 0] := by unfold bytesB; rw [if_neg h1, if_pos h2, rf_head]
    rw [validB2 n h2 h16] at h
    unfold extB at h
    simp only [Bool.and_eq_true, decide_eq_true_eq] at h
    have hri := ref_item h.2.2.2.2.1
    have hx : ∀ x ∈ [pathB n.path false, rf n 0], Item x ∧ x.size ≤ 300 := by
      intro x hx
      rcases List.mem_cons.1 hx with rfl | hx
      · have := hps false
        exact ⟨textB_item _ (by rw [Nib.bs_size, Nib.put_length]; simp; omega), by omega⟩
      · rw [List.mem_singleton.1 hx]
        exact ⟨hri.1, by omega⟩
    have hl : (datas [pathB n.path false, rf n 0]).flatten.length ≤ 600 := by
      have := datas_le [pathB n.path false, rf n 0] 300 (fun x h => (hx x h).2)
      simpa using this
    rw [hb]
    refine ⟨?_, ?_, listB_item _ (by omega)⟩
    · rw [read_list _ (fun x h => (hx x h).1) (by omega)]
      unfold readItems
      have hr : readText (pathB n.path false) = some (Nib.bs (Nib.put n.path.data.toList false)) := readText_text _ (by rw [Nib.bs_size, Nib.put_length]; simp; omega)
      simp only [hr]
      rw [Nib.bs_data, Nib.get_put _ _ (hf.2.2.2.2 (.inr h2))]
      simp only
      rw [Nib.bs_of]
      exact congrArg some h.1.symm
    · have h3 := listB_size [pathB n.path false, rf n 0]
      have h4 := Rlp.head_length 192 (datas [pathB n.path false, rf n 0]).flatten.length
      omega
  · have h3 : n.kind = 3 := by omega
    have hb : bytesB n = listB (itmL n 16 ++ [textB n.value]) := by unfold bytesB; rw [if_neg h1, if_neg h2, if_pos h3, itmL_all n h16]
    rw [validB3 n h3 h16] at h
    unfold branchB at h
    simp only [Bool.and_eq_true, decide_eq_true_eq] at h
    have hall := List.all_eq_true.1 h.2.2.1
    have hrf : ∀ i, i < 16 → rf n i ≠ e0 → (Item (rf n i) ∧ (rf n i).size ≤ 33 ∧ rf n i ≠ textB e0) := fun i hi he =>
      ref_item (hall (rf n i) (by rw [used_all]; exact List.mem_filter.2 ⟨rf_mem n i hi, by simpa using he⟩))
    have h1b : (textB e0).size = 1 := by decide +kernel
    have hit : ∀ x ∈ itmL n 16, Item x ∧ x.size ≤ 33 := by
      intro x hx
      obtain ⟨i, hi, rfl⟩ := List.mem_map.1 hx
      unfold itm
      split
      · exact ⟨textB_item e0 (by decide), by omega⟩
      · next he => have := hrf i (by simpa using hi) he; exact ⟨this.1, this.2.1⟩
    have hx : ∀ x ∈ itmL n 16 ++ [textB n.value], Item x := by
      intro x hx
      rcases List.mem_append.1 hx with hx | hx
      · exact (hit x hx).1
      · rw [List.mem_singleton.1 hx]; exact textB_item _ (by omega)
    have hl : (datas (itmL n 16 ++ [textB n.value])).flatten.length ≤ 16 * 33 + 89 := by
      have h5 := datas_le (itmL n 16) 33 (fun x h => (hit x h).2)
      rw [itmL_length] at h5
      have : (datas (itmL n 16 ++ [textB n.value])).flatten.length = (datas (itmL n 16)).flatten.length + (textB n.value).size := by simp [datas]
      omega
    rw [hb]
    refine ⟨?_, ?_, listB_item _ (by omega)⟩
    · rw [read_list _ hx (by omega), readItems_17 _ (by simp [itmL_length])]
      have hlast : (itmL n 16 ++ [textB n.value]).getLastD e0 = textB n.value := by simp
      rw [hlast, readText_text _ (by omega)]
      have htk : (itmL n 16 ++ [textB n.value]).take 16 = itmL n 16 := by
        rw [List.take_append_of_le_length (by rw [itmL_length]; exact Nat.le_refl _)]
        exact List.take_of_length_le (by rw [itmL_length]; exact Nat.le_refl _)
      rw [htk]
      have hmap : (itmL n 16).map (fun r => if r = textB e0 then e0 else r) = n.refs := by
        rw [← rfs_eq n h16]
        unfold itmL rfs
        rw [List.map_map]
        apply List.map_congr_left
        intro i hi
        have hi' : i < 16 := by simpa using hi
        simp only [Function.comp_def]
        unfold itm
        by_cases he : rf n i = e0
        · rw [if_pos he, if_pos rfl, he]
        · rw [if_neg he, if_neg (hrf i hi' he).2.2]
      rw [hmap]
      show some (⟨3, e0, n.value, n.refs⟩ : Nd) = some n
      rw [← h.1, ← h3]
    · have h3 := listB_size (itmL n 16 ++ [textB n.value])
      have h4 := Rlp.head_length 192 (datas (itmL n 16 ++ [textB n.value])).flatten.length
      omega
/-- What is put is got again. -/
theorem back (n : Nd) (h : validB n = true) (h16 : n.refs.length = 16) : gB (bytesB n) = some n := by
  rw [show gB (bytesB n) = getK itemsB gB (bytesB n) from getB_eq _]
  unfold getK
  rw [(back_read n h h16).1]
  exact if_pos ⟨h, rfl⟩
end Go.Proofs.YtljadanalcfdeaaDoor
namespace Go.Proofs.YtljadanalcfdeaaDoor
open Go.RowKit Go.Proofs.Nod
set_option linter.unusedVariables false
set_option linter.unusedSimpArgs false
def fewB (n : Nd) : Bool := (rfs n).all (fun r => decide (r.size ≤ 50)) && (decide (n.path.size ≤ 50) && decide (n.value.size ≤ 200))
theorem fewB_no (n : Nd) (i : Nat) (hi : i < 16) (h : ¬ (rf n i).size ≤ 50) : fewB n = false := by
  unfold fewB
  have : (rfs n).all (fun r => decide (r.size ≤ 50)) = false := List.all_eq_false.2 ⟨rf n i, rf_mem n i hi, by simpa using h⟩
  rw [this]
  rfl
theorem fewB_yes (n : Nd) (h : ∀ i, i < 16 → (rf n i).size ≤ 50) : fewB n = (decide (n.path.size ≤ 50) && decide (n.value.size ≤ 200)) := by
  unfold fewB
  have : (rfs n).all (fun r => decide (r.size ≤ 50)) = true := List.all_eq_true.2 (fun r hr => by
    obtain ⟨i, hi, rfl⟩ := List.mem_map.1 hr
    exact decide_eq_true (h i (by simpa using hi)))
  rw [this]
  rfl
theorem few_facts {n : Nd} (h : fewB n = true) : (∀ r ∈ rfs n, r.size ≤ 50) ∧ n.path.size ≤ 50 ∧ n.value.size ≤ 200 := by
  unfold fewB at h
  simp only [Bool.and_eq_true, decide_eq_true_eq, List.all_eq_true] at h
  exact ⟨fun r hr => h.1 r hr, h.2.1, h.2.2⟩
set_option maxRecDepth 100000 in
set_option maxHeartbeats 1000000 in
theorem few_any (n : Nd) (w : World) (hz : ∀ i, i < 16 → (rf n i).size ≤ maxLen) (hpz : n.path.size ≤ maxLen) (hvz : n.value.size ≤ maxLen) : Calls Tryd.prog 9 #[.agg (ndC n)] w fun e w' => e = .returned (.bool (fewB n)) ∧ Below w.heap.size w w' := by
  unfold maxLen at hz hpz hvz
  have k0 := Blk.new w 25 (ndC n)
  have b0 : Bl w.heap.size w (w.alloc (.cells (ndC n) 25)) := (Bl.start w).alloc _
  have c1 : (w.alloc (.cells (ndC n) 25)).cell? ⟨w.heap.size, 1, none⟩ = some (.string n.path) := by rw [k0.cell]; rfl
  have c2 : (w.alloc (.cells (ndC n) 25)).cell? ⟨w.heap.size, 2, none⟩ = some (.string n.value) := by rw [k0.cell]; rfl
  have hc : ∀ k, k < 16 → (w.alloc (.cells (ndC n) 25)).cell? ⟨w.heap.size, 3 + k, none⟩ = some (.string (rf n k)) := fun k hk => by rw [k0.cell]; exact ndC_rf n k hk
  have hno := fewB_no n
  have hyes := fewB_yes n
  obtain ⟨FB, hFB⟩ : ∃ b, b = fewB n := ⟨_, rfl⟩
  rw [← hFB] at hno hyes ⊢
  obtain ⟨P, hP⟩ : ∃ p, p = n.path := ⟨_, rfl⟩
  obtain ⟨V, hV⟩ : ∃ p, p = n.value := ⟨_, rfl⟩
  rw [← hP] at c1 hyes hpz
  rw [← hV] at c2 hyes hvz
  obtain ⟨CS, hCS⟩ : ∃ cs, cs = ndC n := ⟨_, rfl⟩
  rw [← hCS] at c1 c2 hc b0 ⊢
  have HC := Lib.hid hc
  have HN := Lib.hid hno
  have HY := Lib.hid hyes
  have HZ := Lib.hid hz
  have B0 := Lib.hid b0
  have C1 := Lib.hid c1
  have C2 := Lib.hid c2
  clear hc hno hyes hz b0 k0 hFB hP hV hCS c1 c2
  go_enter Tryd.func9, Tryd.ntmps9
  go_wp2_with fail
  generalize w.alloc (.cells CS 25) = W1 at *
  generalize hNN : w.heap.size = N at *
  have HNN := Lib.hid hNN
  clear hNN
  go_loop [3] (fun vi => ∃ k : Nat, vi = .int .i64 (k : Int) ∧ k ≤ 16 ∧ Hid (∀ i, i < k → (rf n i).size ≤ 50)) (fun vi => 16 - (intOf vi).toNat)
  case atStart => exact ⟨0, rfl, Nat.zero_le _, Lib.hid (fun i h => by omega)⟩
  case round =>
    obtain ⟨k, rfl, hk, HA⟩ := hrel
    by_cases hlt : k < 16
    · have ck := HC.out k hlt
      have zk := HZ.out k hlt
      have nk := HN.out k hlt
      obtain ⟨X, hX⟩ : ∃ x, x = rf n k := ⟨_, rfl⟩
      rw [← hX] at ck zk nk
      have HX := Lib.hid hX
      have i1 : (k : Int) < 16 := by omega
      have i3 : (0 : Int) ≤ (k : Int) := by omega
      by_cases hx : X.size ≤ 50
      · have i2 : ¬ (50 : Int) < (X.size : Int) := by omega
        have HXX := Lib.hid hx
        clear hX nk hx
        go_wp2_with fail
        go_round
        case rel =>
          refine ⟨k + 1, by go_num, by omega, Lib.hid (fun i hi => ?_)⟩
          by_cases he : i = k
          · rw [he, ← HX.out]; exact HXX.out
          · exact HA.out i (by omega)
        case measure => simp [intOf]; omega
      · have i2 : (50 : Int) < (X.size : Int) := by omega
        have hf := nk hx
        clear hX nk hx
        subst hf
        go_wp2_with fail
        go_ret
        exact ⟨rfl, by rw [HNN.out]; exact B0.out.1⟩
    · obtain rfl : k = 16 := by omega
      have hy := HY.out HA.out
      have c1 := C1.out
      have c2 := C2.out
      by_cases hp : P.size ≤ 50
      · have i1 : (P.size : Int) ≤ 50 := by omega
        by_cases hv : V.size ≤ 200
        · have i2 : (V.size : Int) ≤ 200 := by omega
          rw [decide_eq_true hp, decide_eq_true hv] at hy
          subst hy
          clear hp hv
          go_wp2_with fail
          go_ret
          exact ⟨rfl, by rw [HNN.out]; exact B0.out.1⟩
        · have i2 : decide ((V.size : Int) ≤ 200) = false := by simp; omega
          rw [decide_eq_true hp, decide_eq_false hv] at hy
          subst hy
          clear hp hv
          go_wp2_with fail
          go_ret
          exact ⟨rfl, by rw [HNN.out]; exact B0.out.1⟩
      · have i1 : ¬ (P.size : Int) ≤ 50 := by omega
        rw [decide_eq_false hp] at hy
        subst hy
        clear hp
        go_wp2_with fail
        go_ret
        exact ⟨rfl, by rw [HNN.out]; exact B0.out.1⟩
end Go.Proofs.YtljadanalcfdeaaDoor
