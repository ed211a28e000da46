/-
  Merged: NodeLaid, NodeArgs, NodeWorks, NodeBackP, NodeFew.
-/
import Derived.Test.YtfeonjiiijdibaaGreatDoorGaNodeC
import Derived.Test.YtfeonjiiijdibaaGreatDoorCards
import Derived.ProofKit
import Derived.LaidMore
import Derived.LaidHandle
import Derived.OpenShut
import Derived.Stop.Joined
import Derived.Lib.LaidTab
import Derived.Lib.SmallJoins
import Derived.Test.YtfeonjiiijdibaaGreatDoorGaStep
import Derived.Test.YtfeonjiiijdibaaGreatDoorGaMore
namespace Go.Proofs.YtfeonjiiijdibaaGreatDoor
open Go.ChangeShapes Go.WideShapes Go.ChangeAt Go.RowKit
/-- The tables of sha, and errors.errorType. -/
structure LaidN (w : World) : Prop where
  sha : Laid w
  err : Laid2 w
theorem own : ownKnob Tryz.prog.godebug = none := by kernel_rfl
theorem gStart : Tryz.prog.globalNamed "guilloche/sha.start" = some 0 := by kernel_rfl
theorem gAdded : Tryz.prog.globalNamed "guilloche/sha.added" = some 1 := by kernel_rfl
theorem tStart : (Tryz.prog.globals[0]?).map (·.type) = some 122 := by kernel_rfl
theorem tAdded : (Tryz.prog.globals[1]?).map (·.type) = some 160 := by kernel_rfl
theorem block_of_var {W : World} {n : String} {g : Nat} {cs : Array Value} (hg : Tryz.prog.globalNamed n = some g) (h : W.var? Tryz.prog n = some cs) : ∃ t fr, W.heap[g]? = some (.cells cs t fr) := by
  simp only [World.var?, hg, Option.bind_some] at h
  split at h
  · next c t fr heq => cases h; exact ⟨t, fr, heq⟩
  · cases h
theorem vals_of (l : List UInt32) (cs : Array Value) (h : cs.toList = (l.map fun z => (z.toNat : Int)).map fun z => Value.int .u32 z) : cs = wordVals (fun i => l.getD i 0) l.length := by
  apply Array.toList_inj.1
  rw [h, wordVals]
  apply List.ext_getElem
  · simp
  · intro i h1 h2
    simp at h1
    simp [h1]
theorem gErr : Tryz.prog.globalNamed "errors.errorType" = some 2 := by kernel_rfl
theorem rtErr : (Tryz.prog.cutTypes.find? (·.1 == "internal/reflectlite.rtype")).map (·.2) = some 208 := by kernel_rfl
theorem oneRow : ((List.range Tryz.prog.types.size).filter fun t => Tryz.prog.rowNamed t [101, 114, 114, 111, 114]) = [149] := by kernel_rfl
def laidL : List (String × DataW Unit) := [("guilloche/sha.start", Rows.laid_guilloche_sha_start), ("guilloche/sha.added", Rows.laid_guilloche_sha_added), ("errors.errorType", Rows.laid_errors_errorType)]
/-- What the listed variables hold. -/
theorem laid_of {W : World} (h : laidMetH Tryz.prog laidL W) : LaidN W := by
  have h' : laidMet Tryz.prog [("guilloche/sha.start", Rows.laid_guilloche_sha_start), ("guilloche/sha.added", Rows.laid_guilloche_sha_added)] W ∧ handlesMet Tryz.prog [("errors.errorType", Rows.laid_errors_errorType)] W := h
  obtain ⟨⟨ps, ⟨g0, t0, cs0, f0, p0, q0, hg0, ht0, hv0, hd0, ⟨g1, t1, cs1, f1, p1, q1, hg1, ht1, hv1, hd1, _, _⟩, _⟩, _, _⟩, h2⟩ := h'
  refine ⟨?_, ?_⟩
  · obtain rfl := Option.some.inj (gStart.symm.trans hg0)
    obtain rfl := Option.some.inj (gAdded.symm.trans hg1)
    obtain rfl := Option.some.inj (tStart.symm.trans ht0)
    obtain rfl := Option.some.inj (tAdded.symm.trans ht1)
    have e0 := Lib.cells_of_tab (zs := Sha.start.map fun z => (z.toNat : Int)) Tryz.underlying122 Tryz.underlying107 (by kernel_rfl) (by kernel_rfl) hd0
    have e1 := Lib.cells_of_tab (zs := Sha.added.map fun z => (z.toNat : Int)) Tryz.underlying160 Tryz.underlying107 (by kernel_rfl) (by kernel_rfl) hd1
    obtain ⟨a0, b0, h0⟩ := block_of_var gStart hv0
    obtain ⟨a1, b1, h1⟩ := block_of_var gAdded hv1
    refine ⟨⟨a0, b0, ?_⟩, ⟨a1, b1, ?_⟩⟩
    · rw [h0, vals_of Sha.start cs0 e0]; rfl
    · rw [h1, vals_of Sha.added cs1 e1]; rfl
  · obtain ⟨name, u, ty, e1, e2, e3, e4, e5⟩ := h2 _ (List.mem_singleton.2 rfl)
    have en : name = [101, 114, 114, 111, 114] := (Option.some.inj e1).symm
    subst en
    obtain rfl := Option.some.inj (rtErr.symm.trans e2)
    have hm : ty ∈ (List.range Tryz.prog.types.size).filter fun t => Tryz.prog.rowNamed t [101, 114, 114, 111, 114] := List.mem_filter.2 ⟨List.mem_range.2 e3, e4⟩
    rw [oneRow] at hm
    obtain rfl := List.mem_singleton.1 hm
    have h5 := World.var?_cell gErr e5 0
    have h6 : W.cell? ⟨2, 0, none⟩ = some (.iface 208 (.agg #[typeHandle Tryz.prog 149])) := by simpa using h5
    have e : Value.iface 208 (.agg #[typeHandle Tryz.prog 149]) = rt 149 := by kernel_rfl
    rw [e] at h6
    exact h6
/-- The door's own heap meets the condition. -/
theorem door_met (os : Os) (args : Array Value) : laidMetH Tryz.prog laidL ((World.doorLaid Tryz.prog 400 os).forCall (fun _ _ => 0) ⟨#[], args, []⟩).memory :=
  laidMetH_of_parts3 (fuel := 8) (laidMet_of_run' 8 (by kernel_rfl) (by kernel_rfl)) (by kernel_rfl) (by kernel_rfl)
theorem LaidN.on {w w' : World} (h : LaidN w) (k : Below w.heap.size w w') : LaidN w' :=
  ⟨Laid.below h.sha (by obtain ⟨_, _, _, h⟩ := h.sha; exact (Array.getElem?_eq_some_iff.1 h).1) k, h.err.on k (Nat.le_refl _)⟩
end Go.Proofs.YtfeonjiiijdibaaGreatDoor
namespace Go.Proofs.YtfeonjiiijdibaaGreatDoor
open Go.ChangeShapes Go.WideShapes Go.ChangeAt Go.RowKit Go.Proofs.Nod Go.Joins
set_option linter.unusedVariables false
set_option linter.unusedSimpArgs false
section
variable {H : Type} {enc : TypeId × Value → H} {w : World} {base : Nat} {spare : Nat → Bool} {held : Bool}
/-- A node, as a datum. -/
def ndD (n : Nd) : DataW H := .agg [.lit (.int .i64 n.kind), .lit (.string n.path.data.toList), .lit (.string n.value.data.toList), .agg ((rfs n).map fun r => .lit (.string r.data.toList))]
/-- What an argument may be. -/
structure NdOk (n : Nd) : Prop where
  refs : n.refs.length = 16
  kind : (Lit.int .i64 n.kind).wf = true
  path : n.path.size ≤ maxLen
  value : n.value.size ≤ maxLen
  each : ∀ r ∈ rfs n, r.size ≤ maxLen
theorem cellsStr : Tryz.prog.cellsOf 9 = 1 := by kernel_rfl
theorem cellsKind : Tryz.prog.cellsOf 48 = 1 := by kernel_rfl
theorem cellsArr : Tryz.prog.cellsOf 49 = 16 := by kernel_rfl
set_option maxRecDepth 100000 in
theorem ndC_of (k : Int) (p v : ByteArray) (l : List ByteArray) (h : l.length = 16) : ndC ⟨k, p, v, l⟩ = (Value.int .i64 k :: .string p :: .string v :: l.map Value.string).toArray := by
  have e : rfs ⟨k, p, v, l⟩ = l := rfs_eq ⟨k, p, v, l⟩ h
  have e2 : (ndC ⟨k, p, v, l⟩) = (Value.int .i64 k :: .string p :: .string v :: (rfs ⟨k, p, v, l⟩).map Value.string).toArray := by kernel_rfl
  exact e2.trans (congrArg (fun l : List ByteArray => (Value.int .i64 k :: .string p :: .string v :: l.map Value.string).toArray) e)
set_option maxRecDepth 100000 in
theorem open_nd {r : Reach} {b0 : Nat} {v : Value} {d : DataW H} {p : List MemPlace} (hv : Value.okWide Tryz.prog w r b0 51 v) (h : DataW.Trod enc Tryz.prog w base spare held 51 v d p) :
    ∃ n : Nd, v = .agg (ndC n) ∧ d = ndD n ∧ p = [] ∧ NdOk n := by
  obtain ⟨cs, rfl, hsz⟩ := okWide_struct Tryz.underlying51 hv
  obtain ⟨fuel, hf⟩ := h
  rw [show (Value.agg cs).cells.toList = cs.toList from rfl] at hf
  obtain ⟨y0, y1, y2, y3, n, hx, hlen, h0, h1, h2, h3⟩ := trod_struct4 Tryz.underlying51 hf
  have hl : cs.toList.length = 19 := by rw [show cs.toList.length = cs.size by simp, hsz]; kernel_rfl
  obtain ⟨K, e0', x0, wk⟩ := DataW.trod_int Tryz.underlying48 h0
  obtain ⟨P, e1', x1, wp⟩ := DataW.trod_string Tryz.underlying9 h1
  obtain ⟨V, e2', x2, wv⟩ := DataW.trod_string Tryz.underlying9 h2
  obtain ⟨xs, m, _, x3, hl3, hxl, hel⟩ := DataW.trod_array Tryz.underlying49 h3
  have key : ∀ i, ∃ s : ByteArray, i < 16 → (cs.toList[3 + i]? = some (.string s) ∧ xs[i]? = some (.lit (.string s.data.toList), []) ∧ s.size ≤ maxLen) := by
    intro i
    by_cases hi : i < 16
    · have h4 := hel i hi
      rcases hx4 : xs[i]? with _ | y
      · rw [List.getElem?_eq_none_iff] at hx4; omega
      · rw [hx4] at h4
        obtain ⟨s, e4, x4, w4⟩ := DataW.trod_string Tryz.underlying9 h4
        refine ⟨s, fun _ => ⟨?_, by rw [x4], w4⟩⟩
        have := congrArg (fun l : List Value => l[0]?) e4
        simp only [cellsStr, List.getElem?_take, List.getElem?_drop] at this
        simpa [cellsArr, hi] using this
    · exact ⟨e0, fun h => absurd h hi⟩
  obtain ⟨f, hf4⟩ := Classical.axiomOfChoice key
  have g0 : cs.toList[0]? = some (.int .i64 K) := by
    have := congrArg (fun l : List Value => l[0]?) e0'
    simpa [cellsKind, List.getElem?_take, List.getElem?_drop] using this
  have g1 : cs.toList[1]? = some (.string P) := by
    have := congrArg (fun l : List Value => l[0]?) e1'
    simpa [cellsStr, List.getElem?_take, List.getElem?_drop] using this
  have g2 : cs.toList[2]? = some (.string V) := by
    have := congrArg (fun l : List Value => l[0]?) e2'
    simpa [cellsStr, List.getElem?_take, List.getElem?_drop] using this
  have hll : ((List.range 16).map f).length = 16 := by simp
  have hrf : rfs ⟨K, P, V, (List.range 16).map f⟩ = (List.range 16).map f := rfs_eq ⟨K, P, V, (List.range 16).map f⟩ hll
  have hcs : cs.toList = Value.int .i64 K :: .string P :: .string V :: ((List.range 16).map f).map Value.string := by
    apply List.ext_getElem?
    intro i
    match i with
    | 0 => rw [g0]; rfl
    | 1 => rw [g1]; rfl
    | 2 => rw [g2]; rfl
    | j + 3 =>
      by_cases hj : j < 16
      · have := (hf4 j hj).1
        rw [Nat.add_comm] at this
        rw [this]
        simp [hj]
      · rw [List.getElem?_eq_none (by rw [hl]; omega), List.getElem?_eq_none (by simp; omega)]
  have hxs : xs = ((List.range 16).map f).map fun s => (.lit (.string s.data.toList), []) := by
    apply List.ext_getElem?
    intro i
    by_cases hi : i < 16
    · rw [(hf4 i hi).2.1]; simp [hi]
    · rw [List.getElem?_eq_none (by omega), List.getElem?_eq_none (by simp; omega)]
  simp only [Prod.mk.injEq] at hx
  refine ⟨⟨K, P, V, (List.range 16).map f⟩, ?_, ?_, ?_, ⟨hll, wk, wp, wv, ?_⟩⟩
  · rw [ndC_of _ _ _ _ hll, ← hcs]
  · rw [hx.1, x0, x1, x2, x3, hxs]
    unfold ndD
    rw [hrf]
    simp
  · rw [hx.2, x0, x1, x2, x3, hxs]
    simp
  · rw [hrf]
    intro r hr
    obtain ⟨i, hi, rfl⟩ := List.mem_map.1 hr
    exact (hf4 i (by simpa using hi)).2.2
theorem mapM_all {α β : Type} {f : α → Option β} {g : α → β} : ∀ l : List α, (∀ x ∈ l, f x = some (g x)) → l.mapM f = some (l.map g)
  | [], _ => rfl
  | x :: l, h => by
    rw [List.mapM_cons, h x (by simp), mapM_all l (fun y hy => h y (by simp [hy]))]
    rfl
theorem trod_strs (l : List ByteArray) (hl : l.length = 16) (hw : ∀ r ∈ l, r.size ≤ maxLen) : DataW.trod enc Tryz.prog w base spare held 2 49 (l.map Value.string) = some (.agg (l.map fun r => .lit (.string r.data.toList)), []) := by
  have hs : ∀ i ∈ List.range 16, DataW.trod enc Tryz.prog w base spare held 1 9 (((l.map Value.string).drop (i * Tryz.prog.cellsOf 9)).take (Tryz.prog.cellsOf 9)) = some ((fun i => ((.lit (.string (l.getD i e0).data.toList), []) : DataW H × List MemPlace)) i) := by
    intro i hi
    have hi' : i < l.length := by rw [hl]; simpa using hi
    have e : ((l.map Value.string).drop (i * Tryz.prog.cellsOf 9)).take (Tryz.prog.cellsOf 9) = [.string (l.getD i e0)] := by
      rw [cellsStr, Nat.mul_one]
      apply List.ext_getElem?
      intro j
      rcases j with _ | j
      · simp [List.getElem?_take, List.getElem?_drop, List.getElem?_eq_getElem hi', List.getD_eq_getElem?_getD]
      · simp [List.getElem?_take]
    rw [e]
    have hm : (l.getD i e0).size ≤ maxLen := hw _ (by rw [List.getD_eq_getElem?_getD, List.getElem?_eq_getElem hi']; exact List.getElem_mem _)
    rw [List.getD_eq_getElem?_getD] at hm ⊢
    simp [DataW.trod, Tryz.underlying9, hm]
  have hm := mapM_all _ hs
  have hlen : (l.map Value.string).length = Tryz.prog.cellsOf 49 := by rw [cellsArr]; simp [hl]
  unfold DataW.trod
  rw [Tryz.underlying49]
  simp only [hlen, if_true, hm]
  have e2 : (List.range 16).map (fun i => ((.lit (.string (l.getD i e0).data.toList), []) : DataW H × List MemPlace)) = l.map fun r => (.lit (.string r.data.toList), []) := by
    apply List.ext_getElem
    · simp [hl]
    · intro i h1 h2
      simp at h2
      simp [List.getD_eq_getElem?_getD, List.getElem?_eq_getElem h2]
  rw [e2]
  simp
set_option maxRecDepth 100000 in
theorem shut_nd {n : Nd} (h : NdOk n) : DataW.Trod enc Tryz.prog w base spare held 51 (.agg (ndC n)) (ndD n) [] := by
  have e2 : (ndC n).toList = Value.int .i64 n.kind :: .string n.path :: .string n.value :: (rfs n).map Value.string := by kernel_rfl
  refine ⟨3, ?_⟩
  show DataW.trod enc Tryz.prog w base spare held 3 51 (ndC n).toList = _
  rw [e2]
  have h3 := trod_strs (enc := enc) (w := w) (base := base) (spare := spare) (held := held) (rfs n) (rfs_length n) h.each
  have hlen : (Value.int .i64 n.kind :: .string n.path :: .string n.value :: (rfs n).map Value.string).length = Tryz.prog.cellsOf 51 := by
    rw [show Tryz.prog.cellsOf 51 = 19 by kernel_rfl]
    simp [rfs_length]
  have := trod_struct4_mk (enc := enc) (w := w) (base := base) (spare := spare) (held := held) (n := 2) (cs := Value.int .i64 n.kind :: .string n.path :: .string n.value :: (rfs n).map Value.string)
    (y0 := (.lit (.int .i64 n.kind), [])) (y1 := (.lit (.string n.path.data.toList), [])) (y2 := (.lit (.string n.value.data.toList), [])) (y3 := (.agg ((rfs n).map fun r => .lit (.string r.data.toList)), []))
    Tryz.underlying51 hlen (by simp [cellsKind, DataW.trod, Tryz.underlying48, h.kind]) (by simp [cellsStr, DataW.trod, Tryz.underlying9, h.path]) (by simp [cellsStr, DataW.trod, Tryz.underlying9, h.value])
    (by
      rw [cellsArr]
      show DataW.trod enc Tryz.prog w base spare held 2 49 (((rfs n).map Value.string).take 16) = _
      rw [List.take_of_length_le (by simp [rfs_length])]
      exact h3)
  rw [this]
  rfl
end
end Go.Proofs.YtfeonjiiijdibaaGreatDoor
namespace Go.Proofs.Nod
open Go.Proofs.Nib (bs)
def shaB (s : ByteArray) : ByteArray := bs (Sha.sum s.data.toList)
theorem refB_hash {s : ByteArray} (h : ¬ s.size < 32) : refB s = textB (shaB s) := by unfold refB; rw [if_neg h]; rfl
theorem text32 (h : ByteArray) (e : h.size = 32) : textB h = bs (160 :: h.data.toList) := by
  have hl : h.data.toList.length = 32 := by simpa using e
  have ho : Rlp.own h.data.toList = false := by
    match hd : h.data.toList, hl with
    | [], h => simp at h
    | [_], h => simp at h
    | _ :: _ :: _, _ => rfl
  unfold textB Rlp.text
  rw [ho]
  simp [Rlp.head, hl]
theorem text32_size (h : ByteArray) (e : h.size = 32) : (textB h).size = 33 := by rw [text32 h e, Nib.bs_size]; simp [e]
theorem text32_cut (h : ByteArray) (e : h.size = 32) : (textB h).extract 1 33 = h := by
  rw [text32 h e]
  apply ByteArray.ext
  apply Array.toList_inj.1
  rw [Lib.extract_data]
  have hl : h.data.toList.length = 32 := by simpa using e
  simp [bs]
  exact List.take_of_length_le (by omega)
theorem hashB_text (h : ByteArray) (e : h.size = 32) : hashB (textB h) = some h := by
  unfold hashB
  rw [text32_cut h e, if_pos ⟨text32_size h e, rfl⟩]
end Go.Proofs.Nod
namespace Go.Proofs.YtfeonjiiijdibaaGreatDoor
open Go.RowKit Go.Proofs.Nod
set_option linter.unusedVariables false
set_option linter.unusedSimpArgs false
def leafW : Nd := leafN ⟨#[1]⟩ ⟨#[118]⟩
def sW : ByteArray := ⟨#[194, 49, 118]⟩
def brW0 : Nd := ⟨3, e0, ⟨#[119]⟩, List.replicate 16 e0⟩
def brW : Nd := ⟨3, e0, ⟨#[119]⟩, [e0, e0, e0, sW, e0, e0, e0, e0, e0, e0, e0, e0, e0, e0, e0, e0]⟩
def tW : ByteArray := ⟨#[211, 128, 128, 128, 194, 49, 118, 128, 128, 128, 128, 128, 128, 128, 128, 128, 128, 128, 128, 119]⟩
def noW : Nd := ⟨9, e0, e0, List.replicate 16 e0⟩
theorem shaB_size (s : ByteArray) : (shaB s).size = 32 := by unfold shaB; rw [Nib.bs_size, Sha.sum, out_length]
theorem wk_leaf : validB leafW = true ∧ bytesB leafW = sW := by decide +kernel
theorem wk_get : gB sW = some leafW := by decide +kernel
theorem wk_br : validB brW = true ∧ bytesB brW = tW := by decide +kernel
theorem wk_in : inB sW = some leafW := by decide +kernel
theorem wk_none : gB e0 = none := by decide +kernel
theorem wk_no : validB noW = false := validB_no noW (by decide)
theorem wk_hashes : hashes brW = [] := by decide +kernel
theorem wk_ref : refB sW = sW := by decide +kernel
theorem wk_put {n : Nd} {s : ByteArray} (h : validB n = true ∧ bytesB n = s) (h16 : n.refs.length = 16) (W : World) (hl : Laid2 W) :
    Calls Tryz.prog 61 #[.agg (ndC n)] W fun e w' => e = .returned (.tuple #[.string s, .int .i64 0]) ∧ Below W.heap.size W w' := by
  have := put_all n W h16 (fun r _ h => get_any r (by omega)) hl
  unfold Ptd putB at this
  rw [if_pos h.1, if_pos h.1, h.2] at this
  exact this
theorem wk_geta (s : ByteArray) (hs : s.size ≤ 10000) (W : World) (hl : Laid2 W) : Calls Tryz.prog 33 #[.string s] W fun e w' => e = .returned (.tuple #[.agg (ndC ((gB s).getD zeroN)), .int .i64 (if (gB s).isSome = true then 0 else 2)]) ∧ Below W.heap.size W w' := get_any s hs W hl
theorem wk_valid (n : Nd) (h16 : n.refs.length = 16) (W : World) (hl : Laid2 W) :
    Calls Tryz.prog 65 #[.agg (ndC n)] W fun e w' => e = .returned (.bool (validB n)) ∧ Below W.heap.size W w' :=
  valid_all n W h16 (fun r _ h => get_any r (by omega)) hl
theorem built_nd {n : Nd} {cs : Array Value} (k : Int) (v : ByteArray) (hn : n = ⟨k, e0, v, List.replicate 16 e0⟩) (h : cs = ndC n) : Tryz.prog.built 51 [(0, .int .i64 k), (2, .string v)] = some cs := by rw [h, hn]; kernel_rfl
theorem built_kind {n : Nd} {cs : Array Value} (k : Int) (hn : n = ⟨k, e0, e0, List.replicate 16 e0⟩) (h : cs = ndC n) : Tryz.prog.built 51 [(0, .int .i64 k)] = some cs := by rw [h, hn]; kernel_rfl
set_option maxRecDepth 100000 in
theorem al_nd0 {cs : Array Value} (h : cs = ndC zeroN) (W : World) : (Instr.alloc 51 true (.tuple #[])).run Tryz.prog W = .ok (.pointer (some ⟨W.heap.size, 0, none⟩)) (W.alloc (.cells cs 51)) := by
  rw [h, ndC_zero]
  kernel_rfl
theorem run_conv_lit {o : Oper} {a : Act} {W : World} {b n : Nat} {l : List UInt8} {x : Operand} (ho : o.op = .convert 63 9 x) (hx : a.eval x = .slice (some ⟨b, 0, none⟩) n n) (h : Lit W b l) (hn : n = l.length) : (execOp a.eval o).run Tryz.prog W = .ok (.value (.string (Nib.bs l))) W := by
  subst hn
  unfold execOp
  simp only [ho, hx, Sem.run_bind, h.conv, Result.andThen_ok, Sem.run_pure]
/-- sha.Of of one text. -/
theorem of_one (s : ByteArray) (b : Nat) (W : World) (hl : Laid W) (hs : s.size ≤ 1048576) (h : Blk W b 9 #[.string s]) : Calls Tryz.prog 34 #[.slice (some ⟨b, 0, none⟩) 1 1] W fun e w' => e = .returned (.string (shaB s)) ∧ Below W.heap.size W w' := by
  have := of_any b 0 1 [s] W hl h.lt (by simpa using hs) (by simp) (fun i hi => by
    obtain rfl : i = 0 := by simpa using hi
    rw [h.cell]; rfl)
  rw [show Sha.cat [s] = s.data.toList by simp [Sha.cat]] at this
  exact this
theorem run_eql_of {o : Oper} {a : Act} {W : World} {x y : Operand} {n m : Nd} (ho : o.op = .binOp .eql 51 x y 51) (xs ys : Array Value) (hn : xs = ndC n) (hm : ys = ndC m) (hx : a.eval x = .agg xs) (hy : a.eval y = .agg ys) (h1 : n.refs.length = 16) (h2 : m.refs.length = 16) (b : Bool) (hb : decide (n = m) = b) :
    (execOp a.eval o).run Tryz.prog W = .ok (.value (.bool b)) W := by
  subst hb hn hm
  unfold execOp
  simp only [ho, Sem.run_bind, hx, hy, guard_nd, Result.andThen_ok, eql_nd n m h1 h2, Sem.run_pure]
theorem run_neq_of {o : Oper} {a : Act} {W : World} {x y : Operand} {n m : Nd} (ho : o.op = .binOp .neq 51 x y 51) (xs ys : Array Value) (hn : xs = ndC n) (hm : ys = ndC m) (hx : a.eval x = .agg xs) (hy : a.eval y = .agg ys) (h1 : n.refs.length = 16) (h2 : m.refs.length = 16) (b : Bool) (hb : decide (n = m) = b) :
    (execOp a.eval o).run Tryz.prog W = .ok (.value (.bool (!b))) W := by
  subst hb hn hm
  unfold execOp
  simp only [ho, Sem.run_bind, hx, hy, guard_nd, Result.andThen_ok, neq_nd n m h1 h2, Sem.run_pure]
theorem run_eqs {o : Oper} {a : Act} {W : World} {x y : Operand} (ho : o.op = .binOp .eql 9 x y 9) (s t : ByteArray) (hx : a.eval x = .string s) (hy : a.eval y = .string t) (b : Bool) (hb : decide (s = t) = b) :
    (execOp a.eval o).run Tryz.prog W = .ok (.value (.bool b)) W := by
  subst hb
  unfold execOp
  simp only [ho, hx, hy]
  rw [← bytes_eq]
  simp [go_sem]
theorem run_nesN {o : Oper} {a : Act} {W : World} {x y : Operand} (ho : o.op = .binOp .neq 9 x y 9) (s t : ByteArray) (hx : a.eval x = .string s) (hy : a.eval y = .string t) (b : Bool) (hb : decide (s = t) = b) :
    (execOp a.eval o).run Tryz.prog W = .ok (.value (.bool (!b))) W := by
  subst hb
  unfold execOp
  simp only [ho, hx, hy]
  rw [← bytes_eq]
  simp [go_sem]
end Go.Proofs.YtfeonjiiijdibaaGreatDoor
namespace Go.Proofs.Nib
theorem u8_back {a b : UInt8} (ha : a ≤ 15) (hb : b ≤ 15) : (a * 16 + b) / 16 = a ∧ (a * 16 + b) % 16 = b := by
  rw [UInt8.le_iff_toNat_le] at ha hb
  simp at ha hb
  constructor <;> apply UInt8.toNat_inj.1 <;> simp <;> omega
theorem path_pack_even : ∀ (n : Nat) (l : List UInt8), l.length = 2 * n → valid l = true → path (pack l) = l
  | 0, l, h, _ => by
    have : l = [] := List.eq_nil_of_length_eq_zero (by omega)
    subst this
    rfl
  | n + 1, l, h, hv => by
    match l, h, hv with
    | a :: b :: r, h, hv =>
      simp only [valid, List.all_cons, Bool.and_eq_true, decide_eq_true_eq] at hv
      have := u8_back hv.1 hv.2.1
      simp only [pack, path, this.1, this.2]
      rw [path_pack_even n r (by simp at h; omega) (by simpa [valid] using hv.2.2)]
theorem get_put (p : List UInt8) (leaf : Bool) (h : valid p = true) : get (put p leaf) = some (p, leaf) := by
  unfold get put
  have hl : (front p.length leaf ++ p).length = 2 * ((1 + p.length / 2)) := by
    rw [List.length_append, front_length]
    split <;> omega
  rw [path_pack_even _ _ hl (by rw [valid_append, valid_front, h]; rfl)]
  unfold front
  split
  · cases leaf <;> rfl
  · cases leaf <;> rfl
end Go.Proofs.Nib
namespace Go.Proofs.YtfeonjiiijdibaaGreatDoor
open Go.RowKit Go.Proofs.Nod
/-- A text that is one item. -/
def Item (x : ByteArray) : Prop := ∃ l f n, Rlp.first x.data.toList = .ok (l, f, n) ∧ f + n = x.size
theorem textB_item (b : ByteArray) (h : b.size ≤ 1048576) : Item (textB b) := by
  obtain ⟨f, n, h1, h2, _⟩ := Rlp.first_whole b.data.toList (by simpa using h)
  exact ⟨false, f, n, h1, by unfold textB; rw [Nib.bs_size]; exact h2⟩
theorem first_listB (xs : List ByteArray) (h : (datas xs).flatten.length ≤ 1048576) : Rlp.first (listB xs).data.toList = .ok (true, (Rlp.head 192 (datas xs).flatten.length).length, (datas xs).flatten.length) := Rlp.first_list_body _ h
theorem listB_size (xs : List ByteArray) : (listB xs).size = (Rlp.head 192 (datas xs).flatten.length).length + (datas xs).flatten.length := by
  unfold listB
  rw [Nib.bs_size]
  show (Rlp.head 192 (datas xs).flatten.length ++ (datas xs).flatten).length = _
  rw [List.length_append]
theorem listB_item (xs : List ByteArray) (h : (datas xs).flatten.length ≤ 1048576) : Item (listB xs) := ⟨_, _, _, first_listB xs h, (listB_size xs).symm⟩
theorem itemsB_rows (s : ByteArray) : itemsB s = (rows s).map (·.map Nib.bs) := by
  unfold itemsB
  rcases hr : rows s with _ | xs
  · have := rows_none hr
    rw [if_neg]
    · rfl
    · intro h
      apply this
      intro x hx
      have := List.all_eq_true.1 h x hx
      simpa using this
  · rw [rows_some hr, if_pos]
    · simp [Function.comp_def]
    · simp
theorem its_items : ∀ (xs : List ByteArray), (∀ x ∈ xs, Item x) → ∀ m, (datas xs).flatten.length ≤ m → Rlp.its m (datas xs).flatten = some (datas xs)
  | [], _, m, _ => Rlp.its_nil m
  | x :: xs, h, m, hm => by
    obtain ⟨l, f, n, h1, h2⟩ := h x (by simp)
    have hx : 1 ≤ x.data.toList.length := by
      rcases hd : x.data.toList with _ | ⟨a, r⟩
      · rw [hd] at h1; cases h1
      · simp
    have e1 := Rlp.its_one x.data.toList.length x.data.toList l f n hx h1 (by simpa using h2)
    have e2 := its_items xs (fun y hy => h y (by simp [hy])) (datas xs).flatten.length (Nat.le_refl _)
    have hd : (datas (x :: xs)).flatten = x.data.toList ++ (datas xs).flatten := rfl
    rw [hd] at hm ⊢
    rw [List.length_append] at hm
    rw [Rlp.its_append x.data.toList.length m _ _ _ (Nat.le_refl _) hm e1]
    rw [Rlp.its_fuel m (datas xs).flatten.length _ (by omega) (Nat.le_refl _), e2]
    rfl
theorem itemsB_items (xs : List ByteArray) (h : ∀ x ∈ xs, Item x) : itemsB (Nib.bs (datas xs).flatten) = some xs := by
  rw [itemsB_rows]
  unfold rows
  rw [Nib.bs_size, Nib.bs_data, its_items xs h _ (Nat.le_refl _)]
  show some ((datas xs).map Nib.bs) = some xs
  congr 1
  unfold datas
  rw [List.map_map]
  have : (Nib.bs ∘ fun x : ByteArray => x.data.toList) = id := by funext x; rfl
  rw [this, List.map_id]
theorem splitB_list (xs : List ByteArray) (h : (datas xs).flatten.length ≤ 1048576) : splitB (listB xs) = some (true, Nib.bs (datas xs).flatten) := by
  unfold splitB
  rw [first_listB xs h]
  simp only [Option.some.injEq, Prod.mk.injEq, true_and]
  apply ByteArray.ext
  apply Array.toList_inj.1
  rw [Lib.extract_data]
  show ((Rlp.head 192 (datas xs).flatten.length ++ (datas xs).flatten).drop _).take _ = (datas xs).flatten
  simp
  rw [← List.length_flatten, List.take_length]
theorem readText_text (b : ByteArray) (h : b.size ≤ 1048576) : readText (textB b) = some b := by
  obtain ⟨f, n, h1, h2, h3⟩ := Rlp.first_whole b.data.toList (by simpa using h)
  unfold readText splitB
  rw [show (textB b).data.toList = Rlp.text b.data.toList from rfl, h1]
  simp only [Option.some.injEq]
  apply ByteArray.ext
  apply Array.toList_inj.1
  rw [Lib.extract_data]
  rw [← h3]
  unfold Rlp.mid
  rw [List.drop_take]
  rfl
/-- What is known of what is got. -/
theorem g_facts {s : ByteArray} {m : Nd} (h : gB s = some m) : validB m = true ∧ bytesB m = s ∧ m.refs.length = 16 ∧ m.path.size ≤ 2 * s.size ∧ m.value.size ≤ s.size ∧ ∀ r ∈ rfs m, r.size < s.size := by
  rw [show gB s = getK itemsB gB s from getB_eq s] at h
  unfold getK at h
  split at h
  · cases h
  · next n hn =>
    split at h
    · next hv =>
      cases h
      have h1 := read_facts hn
      exact ⟨hv.1, hv.2, h1.1, h1.2.1, h1.2.2, fun r hr => (refs_lt hn).2 r (by rw [rfs_eq _ h1.1] at hr; exact hr)⟩
    · cases h
theorem in_get {r : ByteArray} {m : Nd} (h : inB r = some m) : r.size < 32 ∧ gB r = some m ∧ m.kind ≠ 0 := by
  unfold inB inlineK at h
  split at h
  · cases h
  · next h32 =>
    rcases hx : gB r with _ | y
    · simp [hx] at h
    · simp only [hx] at h
      split at h
      · cases h
      · next hk => cases h; exact ⟨by omega, rfl, hk⟩
theorem bytes_list (n : Nd) (h0 : n.kind ≠ 0) (h1 : 0 ≤ n.kind ∧ n.kind ≤ 3) : ∃ xs, bytesB n = listB xs := by
  unfold bytesB
  by_cases h : n.kind = 1
  · exact ⟨_, if_pos h⟩
  · rw [if_neg h]
    by_cases h : n.kind = 2
    · exact ⟨_, if_pos h⟩
    · rw [if_neg h]
      exact ⟨_, if_pos (by omega)⟩
/-- A ref that may be is one item. -/
theorem ref_item {r : ByteArray} (h : (rfrB r).isSome = true) : Item r ∧ r.size ≤ 33 ∧ r ≠ textB e0 := by
  unfold rfrB refersK at h
  by_cases hh : (hashB r).isSome = true
  · obtain ⟨x, hx⟩ := Option.isSome_iff_exists.1 hh
    have hs := hashB_size hx
    have hr : textB x = r := by
      unfold hashB at hx
      split at hx
      · next k => cases hx; exact k.2
      · cases hx
    refine ⟨?_, by omega, ?_⟩
    · rw [← hr]; exact textB_item x (by omega)
    · intro e
      have : (textB e0).size = 1 := by decide +kernel
      rw [e] at hs
      omega
  · rw [if_neg hh] at h
    obtain ⟨k, hk⟩ := Option.isSome_iff_exists.1 h
    obtain ⟨m, hm, _⟩ := Option.map_eq_some_iff.1 hk
    obtain ⟨h1, h2, h3⟩ := in_get (show inB r = some m from hm)
    obtain ⟨g1, g2, g3, _⟩ := g_facts h2
    have hf := valid_facts g1 g3
    obtain ⟨xs, hxs⟩ := bytes_list m h3 ⟨hf.1, hf.2.1⟩
    rw [g2] at hxs
    have hl := listB_size xs
    rw [← hxs] at hl
    refine ⟨?_, by omega, ?_⟩
    · rw [hxs]
      exact listB_item xs (by omega)
    · intro e
      have : gB (textB e0) = some zeroN := by decide +kernel
      rw [e, this] at h2
      cases h2
      exact h3 rfl
theorem readItems_17 (l : List ByteArray) (h : l.length = 17) : readItems l = (readText (l.getLastD e0)).map (fun v => ⟨3, e0, v, (l.take 16).map (fun r => if r = textB e0 then e0 else r)⟩) := by
  rcases l with _ | ⟨a, _ | ⟨b, _ | ⟨c, r⟩⟩⟩
  · simp at h
  · simp at h
  · simp at h
  · unfold readItems
    rw [if_pos h]
theorem datas_le (xs : List ByteArray) (m : Nat) (h : ∀ x ∈ xs, x.size ≤ m) : (datas xs).flatten.length ≤ xs.length * m := by
  have := flatten_le (datas xs) m (fun x hx => by obtain ⟨y, hy, rfl⟩ := List.mem_map.1 hx; have := h y hy; simpa using this)
  simpa [datas] using this
/-- The items of a node's bytes. -/
theorem read_list (xs : List ByteArray) (h : ∀ x ∈ xs, Item x) (hs : (datas xs).flatten.length ≤ 1048576) : readB itemsB (listB xs) = readItems xs := by
  unfold readB
  rw [splitB_list xs hs]
  simp only [itemsB_items xs h]
theorem back_read (n : Nd) (h : validB n = true) (h16 : n.refs.length = 16) : readB itemsB (bytesB n) = some n ∧ (bytesB n).size ≤ 700 ∧ Item (bytesB n) := by
  have hf := valid_facts h h16
  have hps := pathB_size n.path
  have hts := textB_size n.value
  by_cases h0 : n.kind = 0
  · rw [validB0 n h0] at h
    rw [of_decide_eq_true h]
    refine ⟨by decide +kernel, by decide +kernel, ?_⟩
    exact textB_item e0 (by decide)
  by_cases h1 : n.kind = 1
  · have hb : bytesB n = listB [pathB n.path true, textB n.value] := by unfold bytesB; rw [if_pos h1]
    have hn : n = leafN n.path n.value := by
      rw [validB1 n h1] at h
      simp only [Bool.and_eq_true, decide_eq_true_eq] at h
      exact h.1
    have hx : ∀ x ∈ [pathB n.path true, textB n.value], Item x ∧ x.size ≤ 300 := by
      intro x hx
      rcases List.mem_cons.1 hx with rfl | hx
      · have := hps true
        exact ⟨textB_item _ (by rw [Nib.bs_size, Nib.put_length]; simp; omega), by omega⟩
      · rw [List.mem_singleton.1 hx]
        exact ⟨textB_item _ (by omega), by omega⟩
    have hl : (datas [pathB n.path true, textB n.value]).flatten.length ≤ 600 := by
      have := datas_le [pathB n.path true, textB n.value] 300 (fun x h => (hx x h).2)
      simpa using this
    rw [hb]
    refine ⟨?_, ?_, listB_item _ (by omega)⟩
    · rw [read_list _ (fun x h => (hx x h).1) (by omega)]
      unfold readItems
      have hr : readText (pathB n.path true) = some (Nib.bs (Nib.put n.path.data.toList true)) := readText_text _ (by rw [Nib.bs_size, Nib.put_length]; simp; omega)
      simp only [hr]
      rw [Nib.bs_data, Nib.get_put _ _ (hf.2.2.2.2 (.inl h1))]
      simp only
      rw [readText_text _ (by omega)]
      show some (⟨1, Nib.bs n.path.data.toList, n.value, List.replicate 16 e0⟩ : Nd) = some n
      rw [Nib.bs_of]
      exact congrArg some hn.symm
    · have h3 := listB_size [pathB n.path true, textB n.value]
      have h4 := Rlp.head_length 192 (datas [pathB n.path true, textB n.value]).flatten.length
      omega
  by_cases h2 : n.kind = 2
  · have hb : bytesB n = listB [pathB n.path false, rf n 0] := by unfold bytesB; rw [if_neg h1, if_pos h2, rf_head]
    rw [validB2 n h2 h16] at h
    unfold extB at h
    simp only [Bool.and_eq_true, decide_eq_true_eq] at h
    have hri := ref_item h.2.2.2.2.1
    have hx : ∀ x ∈ [pathB n.path false, rf n 0], Item x ∧ x.size ≤ 300 := by
      intro x hx
      rcases List.mem_cons.1 hx with rfl | hx
      · have := hps false
        exact ⟨textB_item _ (by rw [Nib.bs_size, Nib.put_length]; simp; omega), by omega⟩
      · rw [List.mem_singleton.1 hx]
        exact ⟨hri.1, by omega⟩
    have hl : (datas [pathB n.path false, rf n 0]).flatten.length ≤ 600 := by
      have := datas_le [pathB n.path false, rf n 0] 300 (fun x h => (hx x h).2)
      simpa using this
    rw [hb]
    refine ⟨?_, ?_, listB_item _ (by omega)⟩
    · rw [read_list _ (fun x h => (hx x h).1) (by omega)]
      unfold readItems
      have hr : readText (pathB n.path false) = some (Nib.bs (Nib.put n.path.data.toList false)) := readText_text _ (by rw [Nib.bs_size, Nib.put_length]; simp; omega)
      simp only [hr]
      rw [Nib.bs_data, Nib.get_put _ _ (hf.2.2.2.2 (.inr h2))]
      simp only
      rw [Nib.bs_of]
      exact congrArg some h.1.symm
    · have h3 := listB_size [pathB n.path false, rf n 0]
      have h4 := Rlp.head_length 192 (datas [pathB n.path false, rf n 0]).flatten.length
      omega
  · have h3 : n.kind = 3 := by omega
    have hb : bytesB n = listB (itmL n 16 ++ [textB n.value]) := by unfold bytesB; rw [if_neg h1, if_neg h2, if_pos h3, itmL_all n h16]
    rw [validB3 n h3 h16] at h
    unfold branchB at h
    simp only [Bool.and_eq_true, decide_eq_true_eq] at h
    have hall := List.all_eq_true.1 h.2.2.1
    have hrf : ∀ i, i < 16 → rf n i ≠ e0 → (Item (rf n i) ∧ (rf n i).size ≤ 33 ∧ rf n i ≠ textB e0) := fun i hi he =>
      ref_item (hall (rf n i) (by rw [used_all]; exact List.mem_filter.2 ⟨rf_mem n i hi, by simpa using he⟩))
    have h1b : (textB e0).size = 1 := by decide +kernel
    have hit : ∀ x ∈ itmL n 16, Item x ∧ x.size ≤ 33 := by
      intro x hx
      obtain ⟨i, hi, rfl⟩ := List.mem_map.1 hx
      unfold itm
      split
      · exact ⟨textB_item e0 (by decide), by omega⟩
      · next he => have := hrf i (by simpa using hi) he; exact ⟨this.1, this.2.1⟩
    have hx : ∀ x ∈ itmL n 16 ++ [textB n.value], Item x := by
      intro x hx
      rcases List.mem_append.1 hx with hx | hx
      · exact (hit x hx).1
      · rw [List.mem_singleton.1 hx]; exact textB_item _ (by omega)
    have hl : (datas (itmL n 16 ++ [textB n.value])).flatten.length ≤ 16 * 33 + 89 := by
      have h5 := datas_le (itmL n 16) 33 (fun x h => (hit x h).2)
      rw [itmL_length] at h5
      have : (datas (itmL n 16 ++ [textB n.value])).flatten.length = (datas (itmL n 16)).flatten.length + (textB n.value).size := by simp [datas]
      omega
    rw [hb]
    refine ⟨?_, ?_, listB_item _ (by omega)⟩
    · rw [read_list _ hx (by omega), readItems_17 _ (by simp [itmL_length])]
      have hlast : (itmL n 16 ++ [textB n.value]).getLastD e0 = textB n.value := by simp
      rw [hlast, readText_text _ (by omega)]
      have htk : (itmL n 16 ++ [textB n.value]).take 16 = itmL n 16 := by
        rw [List.take_append_of_le_length (by rw [itmL_length]; exact Nat.le_refl _)]
        exact List.take_of_length_le (by rw [itmL_length]; exact Nat.le_refl _)
      rw [htk]
      have hmap : (itmL n 16).map (fun r => if r = textB e0 then e0 else r) = n.refs := by
        rw [← rfs_eq n h16]
        unfold itmL rfs
        rw [List.map_map]
        apply List.map_congr_left
        intro i hi
        have hi' : i < 16 := by simpa using hi
        simp only [Function.comp_def]
        unfold itm
        by_cases he : rf n i = e0
        · rw [if_pos he, if_pos rfl, he]
        · rw [if_neg he, if_neg (hrf i hi' he).2.2]
      rw [hmap]
      show some (⟨3, e0, n.value, n.refs⟩ : Nd) = some n
      rw [← h.1, ← h3]
    · have h3 := listB_size (itmL n 16 ++ [textB n.value])
      have h4 := Rlp.head_length 192 (datas (itmL n 16 ++ [textB n.value])).flatten.length
      omega
/-- What is put is got again. -/
theorem back (n : Nd) (h : validB n = true) (h16 : n.refs.length = 16) : gB (bytesB n) = some n := by
  rw [show gB (bytesB n) = getK itemsB gB (bytesB n) from getB_eq _]
  unfold getK
  rw [(back_read n h h16).1]
  exact if_pos ⟨h, rfl⟩
end Go.Proofs.YtfeonjiiijdibaaGreatDoor
namespace Go.Proofs.YtfeonjiiijdibaaGreatDoor
open Go.RowKit Go.Proofs.Nod
set_option linter.unusedVariables false
set_option linter.unusedSimpArgs false
def fewB (n : Nd) : Bool := (rfs n).all (fun r => decide (r.size ≤ 50)) && (decide (n.path.size ≤ 50) && decide (n.value.size ≤ 200))
theorem fewB_no (n : Nd) (i : Nat) (hi : i < 16) (h : ¬ (rf n i).size ≤ 50) : fewB n = false := by
  unfold fewB
  have : (rfs n).all (fun r => decide (r.size ≤ 50)) = false := List.all_eq_false.2 ⟨rf n i, rf_mem n i hi, by simpa using h⟩
  rw [this]
  rfl
theorem fewB_yes (n : Nd) (h : ∀ i, i < 16 → (rf n i).size ≤ 50) : fewB n = (decide (n.path.size ≤ 50) && decide (n.value.size ≤ 200)) := by
  unfold fewB
  have : (rfs n).all (fun r => decide (r.size ≤ 50)) = true := List.all_eq_true.2 (fun r hr => by
    obtain ⟨i, hi, rfl⟩ := List.mem_map.1 hr
    exact decide_eq_true (h i (by simpa using hi)))
  rw [this]
  rfl
theorem few_facts {n : Nd} (h : fewB n = true) : (∀ r ∈ rfs n, r.size ≤ 50) ∧ n.path.size ≤ 50 ∧ n.value.size ≤ 200 := by
  unfold fewB at h
  simp only [Bool.and_eq_true, decide_eq_true_eq, List.all_eq_true] at h
  exact ⟨fun r hr => h.1 r hr, h.2.1, h.2.2⟩
end Go.Proofs.YtfeonjiiijdibaaGreatDoor
