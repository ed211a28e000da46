/-
  Merged: NodeLeaf, NodeBranch, NodeBox, NodeRefers, NodeEq, NodeMay, NodeExt.
-/
import Derived.Test.YtfeonjiiijdibaaGreatDoorGaNodeA
import Derived.Test.YtfeonjiiijdibaaGreatDoorGaStep
import Derived.Deep.MidRow
import Derived.Stop.BytesEq
namespace Go.Proofs.YtfeonjiiijdibaaGreatDoor
open Go.RowKit Go.Proofs.Nod
set_option linter.unusedVariables false
set_option linter.unusedSimpArgs false
theorem textB_size (b : ByteArray) : (textB b).size ≤ b.size + 9 := by
  unfold textB Rlp.text
  rw [Nib.bs_size]
  split
  · simp
  · have := Rlp.head_length 128 b.data.toList.length
    simp at this ⊢
    omega
theorem pathB_size (p : ByteArray) (l : Bool) : (pathB p l).size ≤ p.size + 11 := by
  unfold pathB
  have := textB_size (Nib.bs (Nib.put p.data.toList l))
  rw [Nib.bs_size, Nib.put_length] at this
  simp at this
  omega
/-- What a node's bytes are made of. -/
theorem isAggS (W : World) : (isAgg 9).run Tryz.prog W = .ok false W := by kernel_rfl
theorem sh_load {cs : Array Value} {a : Act} {o : Oper} {W : World} {g : Nat} (ho : o.op = .load 120 (.tmp 1)) (hx : a.eval (.tmp 1) = .pointer (some ⟨g, 0, none⟩)) (h : Blk W g 120 cs) (hn : cs.size = 19) :
    (execOp a.eval o).run Tryz.prog W = .ok (.value (.agg cs)) W :=
  Segs.run_row 120 (.tmp 1) ho g hx 120 cs _ h Tryz.underlying120 rfl (by rw [hn]; kernel_rfl)
/-- A list of two items. -/
theorem list2_any (x y : ByteArray) (b : Nat) (W : World) (hb : b < W.heap.size) (hs : x.size ≤ 1048576) (hs2 : y.size ≤ 1048576) (h : Blk W b 9 #[.string x, .string y]) :
    Calls Tryz.prog 127 #[.slice (some ⟨b, 0, none⟩) 2 2] W fun e w' => e = .returned (.string (listB [x, y])) ∧ Below W.heap.size W w' :=
  list_any b 0 2 [x, y] W (fun j z hx => by
    rw [Nat.zero_add, h.cell]
    rcases j with _ | _ | j
    · cases hx; rfl
    · cases hx; rfl
    · simp at hx) hb (by simp) (by simp) (by simp [datas]; omega)
set_option maxRecDepth 100000 in
set_option maxHeartbeats 1000000 in
theorem sleaf_any (n : Nd) (w : World) (hk : n.kind = 1) (hv : Nib.valid n.path.data.toList = true) (hs : n.path.size ≤ 1000) (hs2 : n.value.size ≤ 100000) :
    Calls Tryz.prog 90 #[.agg (ndC n)] w fun e w' => e = .returned (.string (bytesB n)) ∧ Below w.heap.size w w' := by
  have k0 := Blk.new w 120 (ndC n)
  have b0 : Bl w.heap.size w (w.alloc (.cells (ndC n) 120)) := (Bl.start w).alloc _
  have hb : bytesB n = listB [pathB n.path true, textB n.value] := by unfold bytesB; rw [if_pos hk]
  have hp := fun W => spath_any n W hv hs
  rw [hk, show decide ((1 : Int) = 1) = true from rfl] at hp
  have hVT := fun W => text_any n.value W (by omega)
  have hz1 : (pathB n.path true).size ≤ 1048576 := by have := pathB_size n.path true; omega
  have hz2 : (textB n.value).size ≤ 1048576 := by have := textB_size n.value; omega
  have hv2 : (ndC n)[2]? = some (.string n.value) := rfl
  have hsz : (ndC n).size = 19 := rfl
  rw [hb]
  obtain ⟨PB, hPB⟩ : ∃ q, q = pathB n.path true := ⟨_, rfl⟩
  obtain ⟨VB, hVB⟩ : ∃ q, q = textB n.value := ⟨_, rfl⟩
  obtain ⟨CS, hCS⟩ : ∃ cs, cs = ndC n := ⟨_, rfl⟩
  obtain ⟨V, hV⟩ : ∃ v, v = n.value := ⟨_, rfl⟩
  rw [show Nib.bs (Rlp.text n.value.data.toList) = textB n.value from rfl] at hVT
  rw [← hPB] at hp hz1 ⊢
  rw [← hVB] at hVT hz2 ⊢
  rw [← hCS] at hp k0 b0 hv2 hsz ⊢
  rw [← hV] at hVT hv2
  have HP := Lib.hid hp
  have HVT := Lib.hid hVT
  have B0 := Lib.hid b0
  have K0 := Lib.hid k0
  have HV2 := Lib.hid hv2
  have HSZ := Lib.hid hsz
  have HZ1 := Lib.hid hz1
  have HZ2 := Lib.hid hz2
  clear k0 b0 hp hPB hVB hb hVT hCS hV hk hv hs hs2 hz1 hz2 hv2 hsz
  go_enter Tryz.func90, Tryz.ntmps90
  go_wp2_with fail
  generalize w.alloc (.cells CS 120) = W1 at *
  generalize hN : w.heap.size = N at *
  have HN := Lib.hid hN
  clear hN
  refine Segs.wp_region_segs Segs.Hist [false, false, false, false, false, false, true, true, true] Segs.Hist.refl Segs.Hist.trans (by kernel_rfl) (by kernel_rfl) (by kernel_rfl) ?_
  have K1 := Lib.hid (show Blk W1.drew N 120 CS from K0.out)
  have B1 := Lib.hid B0.out.drew
  generalize W1.drew = W2 at *
  refine Segs.wpM_val (some 3) (.agg CS) rfl (by kernel_rfl) (fun W h => sh_load (g := N) rfl (by kernel_rfl) (K1.out.below h) HSZ.out) ?_
  refine Segs.wpM_call (some 4) 128 #[.agg CS] (.string PB) rfl (by kernel_rfl) (fun W => by kernel_rfl) (fun W h => HP.out W) ?_
  refine Segs.wpM_val (some 5) (.pointer (some ⟨N, 0, none⟩)) rfl (by kernel_rfl) (fun W h => by kernel_rfl) ?_
  refine Segs.wpM_val (some 6) (.pointer (some ⟨N, 2, none⟩)) rfl (by kernel_rfl) (fun W h => by kernel_rfl) ?_
  refine Segs.wpM_val (some 7) (.string V) rfl (by kernel_rfl) (fun W h => Segs.run_cell 9 (.tmp 6) rfl N 2 (by kernel_rfl) _ (isAggS W) (by rw [(K1.out.below h).cell]; exact HV2.out)) ?_
  refine Segs.wpM_call (some 8) 73 #[.string V] (.string VB) rfl (by kernel_rfl) (fun W => by kernel_rfl) (fun W h => HVT.out W) ?_
  refine Segs.wpM_new (some 9) (fun W => .slice (some ⟨W.heap.size, 0, none⟩) 2 2) (.cells #[.string PB, .string VB] 9) rfl (by kernel_rfl) (fun W h => Segs.run_slice_of 29 9 2 _ rfl _ Tryz.underlying29 (by kernel_rfl)) (fun W _ => Segs.Hist.alloc W _) (fun V2 h2 => ?_)
  have KS := Lib.hid (Blk.new V2 9 #[.string PB, .string VB])
  refine Segs.wpM_acall (some 10) 127 #[.slice (some ⟨V2.heap.size, 0, none⟩) 2 2] _ rfl (by kernel_rfl) (fun W => by kernel_rfl) (fun W h => list2_any PB VB V2.heap.size W (by have := h.size; simp at this; omega) HZ1.out HZ2.out (KS.out.below h)) (fun W3 h3 e w' hR => ?_)
  obtain ⟨rfl, b4⟩ := hR
  refine ⟨_, rfl, b4, ?_⟩
  refine Segs.wpM_aval (some 2) (.string (listB [PB, VB])) rfl rfl Segs.Hist.refl (fun W h => by kernel_rfl) (fun W5 h5 => ?_)
  refine Segs.wpM_end (fun W6 h6 => ?_)
  have B6 := Lib.hid ((((((B1.out.call h2).alloc (.cells #[.string PB, .string VB] 9)).call h3).call b4).call h5).call h6)
  simp only [Act.put, List.setIfInBounds_toArray, List.set_cons_zero, List.set_cons_succ]
  go_wp2_with fail
  go_ret
  exact ⟨rfl, by rw [HN.out]; exact B6.out.1⟩
set_option maxRecDepth 100000 in
set_option maxHeartbeats 1000000 in
theorem sext_any (n : Nd) (w : World) (hk : n.kind = 2) (hv : Nib.valid n.path.data.toList = true) (hs : n.path.size ≤ 1000) (hs2 : (rf n 0).size ≤ 100000) :
    Calls Tryz.prog 91 #[.agg (ndC n)] w fun e w' => e = .returned (.string (bytesB n)) ∧ Below w.heap.size w w' := by
  have k0 := Blk.new w 120 (ndC n)
  have b0 : Bl w.heap.size w (w.alloc (.cells (ndC n) 120)) := (Bl.start w).alloc _
  have hb : bytesB n = listB [pathB n.path false, rf n 0] := by unfold bytesB; rw [if_neg (by omega), if_pos hk]; unfold rf; cases n.refs <;> rfl
  have hp := fun W => spath_any n W hv hs
  rw [hk, show decide ((2 : Int) = 1) = false from rfl] at hp
  have hz1 : (pathB n.path false).size ≤ 1048576 := by have := pathB_size n.path false; omega
  have hz2 : (rf n 0).size ≤ 1048576 := by omega
  have hv2 : (ndC n)[3]? = some (.string (rf n 0)) := rfl
  have hsz : (ndC n).size = 19 := rfl
  rw [hb]
  obtain ⟨PB, hPB⟩ : ∃ q, q = pathB n.path false := ⟨_, rfl⟩
  obtain ⟨CS, hCS⟩ : ∃ cs, cs = ndC n := ⟨_, rfl⟩
  obtain ⟨VB, hVB⟩ : ∃ v, v = rf n 0 := ⟨_, rfl⟩
  rw [← hPB] at hp hz1 ⊢
  rw [← hVB] at hz2 hv2 ⊢
  rw [← hCS] at hp k0 b0 hv2 hsz ⊢
  have HP := Lib.hid hp
  have B0 := Lib.hid b0
  have K0 := Lib.hid k0
  have HV2 := Lib.hid hv2
  have HSZ := Lib.hid hsz
  have HZ1 := Lib.hid hz1
  have HZ2 := Lib.hid hz2
  clear k0 b0 hp hPB hVB hb hCS hk hv hs hs2 hz1 hz2 hv2 hsz
  go_enter Tryz.func91, Tryz.ntmps91
  go_wp2_with fail
  generalize w.alloc (.cells CS 120) = W1 at *
  generalize hN : w.heap.size = N at *
  have HN := Lib.hid hN
  clear hN
  refine Segs.wp_region_segs Segs.Hist [false, false, false, false, false, false, true, true, true] Segs.Hist.refl Segs.Hist.trans (by kernel_rfl) (by kernel_rfl) (by kernel_rfl) ?_
  have K1 := Lib.hid (show Blk W1.drew N 120 CS from K0.out)
  have B1 := Lib.hid B0.out.drew
  generalize W1.drew = W2 at *
  refine Segs.wpM_val (some 3) (.agg CS) rfl (by kernel_rfl) (fun W h => sh_load (g := N) rfl (by kernel_rfl) (K1.out.below h) HSZ.out) ?_
  refine Segs.wpM_call (some 4) 128 #[.agg CS] (.string PB) rfl (by kernel_rfl) (fun W => by kernel_rfl) (fun W h => HP.out W) ?_
  refine Segs.wpM_val (some 5) (.pointer (some ⟨N, 0, none⟩)) rfl (by kernel_rfl) (fun W h => by kernel_rfl) ?_
  refine Segs.wpM_val (some 6) (.pointer (some ⟨N, 3, none⟩)) rfl (by kernel_rfl) (fun W h => by kernel_rfl) ?_
  refine Segs.wpM_val (some 7) (.pointer (some ⟨N, 3, none⟩)) rfl (by kernel_rfl) (fun W h => by kernel_rfl) ?_
  refine Segs.wpM_val (some 8) (.string VB) rfl (by kernel_rfl) (fun W h => Segs.run_cell 9 (.tmp 7) rfl N 3 (by kernel_rfl) _ (isAggS W) (by rw [(K1.out.below h).cell]; exact HV2.out)) ?_
  refine Segs.wpM_new (some 9) (fun W => .slice (some ⟨W.heap.size, 0, none⟩) 2 2) (.cells #[.string PB, .string VB] 9) rfl (by kernel_rfl) (fun W h => Segs.run_slice_of 29 9 2 _ rfl _ Tryz.underlying29 (by kernel_rfl)) (fun W _ => Segs.Hist.alloc W _) (fun V2 h2 => ?_)
  have KS := Lib.hid (Blk.new V2 9 #[.string PB, .string VB])
  refine Segs.wpM_acall (some 10) 127 #[.slice (some ⟨V2.heap.size, 0, none⟩) 2 2] _ rfl (by kernel_rfl) (fun W => by kernel_rfl) (fun W h => list2_any PB VB V2.heap.size W (by have := h.size; simp at this; omega) HZ1.out HZ2.out (KS.out.below h)) (fun W3 h3 e w' hR => ?_)
  obtain ⟨rfl, b4⟩ := hR
  refine ⟨_, rfl, b4, ?_⟩
  refine Segs.wpM_aval (some 2) (.string (listB [PB, VB])) rfl rfl Segs.Hist.refl (fun W h => by kernel_rfl) (fun W5 h5 => ?_)
  refine Segs.wpM_end (fun W6 h6 => ?_)
  have B6 := Lib.hid ((((((B1.out.call h2).alloc (.cells #[.string PB, .string VB] 9)).call h3).call b4).call h5).call h6)
  simp only [Act.put, List.setIfInBounds_toArray, List.set_cons_zero, List.set_cons_succ]
  go_wp2_with fail
  go_ret
  exact ⟨rfl, by rw [HN.out]; exact B6.out.1⟩
end Go.Proofs.YtfeonjiiijdibaaGreatDoor
namespace Go.Proofs.Nod
/-- A ref as an item. -/
def itm (r : ByteArray) : ByteArray := if r = e0 then textB e0 else r
def itmL (n : Nd) (k : Nat) : List ByteArray := (List.range k).map (fun i => itm (rf n i))
theorem itmL_length (n : Nd) (k : Nat) : (itmL n k).length = k := by simp [itmL]
theorem itmL_succ (n : Nd) (k : Nat) : itmL n (k + 1) = itmL n k ++ [itm (rf n k)] := by simp [itmL, List.range_succ]
theorem itmL_all (n : Nd) (h : n.refs.length = 16) : n.refs.map (fun r => if r = e0 then textB e0 else r) = itmL n 16 := by
  apply List.ext_getElem
  · simp [h, itmL]
  · intro i h1 h2
    simp at h1
    simp only [itmL, List.getElem_map, List.getElem_range, rf, List.getD_eq_getElem?_getD, List.getElem?_eq_getElem h1, Option.getD_some]
    rfl
end Go.Proofs.Nod
namespace Go.Proofs.YtfeonjiiijdibaaGreatDoor
open Go.RowKit Go.Proofs.Nod
set_option linter.unusedVariables false
set_option linter.unusedSimpArgs false
theorem flatten_le {α : Type} (l : List (List α)) (m : Nat) (h : ∀ x ∈ l, x.length ≤ m) : l.flatten.length ≤ l.length * m := by
  induction l with
  | nil => simp
  | cons x r ih =>
    have h1 := h x (by simp)
    have h2 := ih (fun y hy => h y (by simp [hy]))
    simp only [List.flatten_cons, List.length_append, List.length_cons, Nat.add_mul, Nat.one_mul]
    omega
/-- A node's refs, as cells. -/
def rfL (n : Nd) : List Value := (List.range 16).map (fun i => .string (rf n i))
theorem ndC_rf (n : Nd) (k : Nat) (h : k < 16) : (ndC n)[3 + k]? = some (.string (rf n k)) := ndC_ref n k h
theorem rfL_size (n : Nd) : (rfL n).length = 16 := by simp [rfL]
theorem rfL_get (n : Nd) (k : Nat) (h : k < 16) : (rfL n)[k]? = some (.string (rf n k)) := by simp [rfL, h]
/-- A node's refs lie in its cells. -/
theorem rf_range {w : World} {g : Nat} {T : TypeId} {n : Nd} (h : Blk w g T (ndC n)) : w.rangeAt g 3 (rfL n) := by
  intro j v hj
  have hlt : j < 16 := by
    rcases Nat.lt_or_ge j 16 with h | h
    · exact h
    · rw [List.getElem?_eq_none (by rw [rfL_size]; exact h)] at hj; cases hj
  rw [rfL_get n j hlt] at hj
  rw [h.cell, ndC_rf n j hlt, hj]
/-- An array of strings by an index. -/
theorem index_strs (l : List Value) (k : Nat) (v : Value) (hs : l.length = 16) (hk : l[k]? = some v) (h : k < 16) (W : World) : (Instr.index 49 (.agg l.toArray) (.int .i64 (k : Int))).run Tryz.prog W = .ok v W := by
  have hz : ∀ w, (sizeOf 9).run Tryz.prog w = .ok 1 w := fun w => by kernel_rfl
  unfold Instr.index
  simp only [asIntOf, Sem.run_bind, Sem.run_pure, Result.andThen_ok, run_underlying Tryz.underlying49]
  rw [if_pos (by omega)]
  simp only [Sem.run_bind, hz, Result.andThen_ok, part, isAggS, Nat.mul_one, Int.toNat_natCast]
  simp [hk]
set_option maxRecDepth 100000 in
set_option maxHeartbeats 2000000 in
theorem sbranch_any (n : Nd) (w : World) (hk : n.kind = 3) (hl : n.refs.length = 16) (hs : ∀ i, i < 16 → (rf n i).size ≤ 10000) (hs2 : n.value.size ≤ 100000) :
    Calls Tryz.prog 92 #[.agg (ndC n)] w fun e w' => e = .returned (.string (bytesB n)) ∧ Below w.heap.size w w' := by
  have k0 := Blk.new w 120 (ndC n)
  have b0 : Bl w.heap.size w (w.alloc (.cells (ndC n) 120)) := (Bl.start w).alloc _
  have hb : bytesB n = listB (itmL n 16 ++ [textB n.value]) := by unfold bytesB; rw [if_neg (by omega), if_neg (by omega), if_pos hk, itmL_all n hl]
  have hVT := fun W => text_any n.value W (by omega)
  rw [show Nib.bs (Rlp.text n.value.data.toList) = textB n.value from rfl] at hVT
  have hz2 : (textB n.value).size ≤ 1048576 := by have := textB_size n.value; omega
  have hv2 : (ndC n)[2]? = some (.string n.value) := rfl
  obtain ⟨VB, hVB⟩ : ∃ q, q = textB n.value := ⟨_, rfl⟩
  obtain ⟨V, hV⟩ : ∃ v, v = n.value := ⟨_, rfl⟩
  obtain ⟨T0, hT0⟩ : ∃ T, T = textB e0 := ⟨_, rfl⟩
  have TX : Hid (∀ W, Calls Tryz.prog 73 #[.string ⟨#[]⟩] W fun e w' => e = .returned (.string T0) ∧ Below W.heap.size W w') := Lib.hid (fun W => by rw [hT0]; exact text_any e0 W (by simp [e0, ByteArray.size]))
  rw [hb]
  rw [← hVB] at hVT hz2 ⊢
  rw [← hV] at hVT hv2
  have hrange : ∀ W, Below (w.alloc (.cells (ndC n) 120)).heap.size (w.alloc (.cells (ndC n) 120)) W → W.rangeAt w.heap.size 3 (rfL n) := fun W h => rf_range (k0.below h)
  obtain ⟨RL, hRL⟩ : ∃ r, r = rfL n := ⟨_, rfl⟩
  have hix : ∀ k : Nat, k < 16 → ∀ W : World, (Instr.index 49 (.agg RL.toArray) (.int .i64 (k : Int))).run Tryz.prog W = .ok (.string (rf n k)) W := fun k h W => by
    rw [hRL]; exact index_strs _ k _ (rfL_size n) (rfL_get n k h) h W
  have hls : RL.length = 16 := by rw [hRL]; exact rfL_size n
  have hsz : ∀ x ∈ itmL n 16, x.size ≤ 10020 := by
    intro x hx
    obtain ⟨i, hi, rfl⟩ := List.mem_map.1 hx
    unfold itm
    split
    · have := textB_size e0; have h0 : e0.size = 0 := rfl; omega
    · have := hs i (by simpa using hi); omega
  have hitm : ∀ k : Nat, k < 16 → itm (rf n k) = if rf n k = ⟨#[]⟩ then T0 else rf n k := fun k _ => by rw [hT0]; rfl
  rw [← hRL] at hrange
  obtain ⟨CS, hCS⟩ : ∃ cs, cs = ndC n := ⟨_, rfl⟩
  rw [← hCS] at k0 b0 hv2 hrange ⊢
  have HVT := Lib.hid hVT
  have B0 := Lib.hid b0
  have K0 := Lib.hid k0
  have HV2 := Lib.hid hv2
  have HZ2 := Lib.hid hz2
  have HR := Lib.hid hrange
  have HIX := Lib.hid hix
  have HLS := Lib.hid hls
  have HSZ := Lib.hid hsz
  have HIT := Lib.hid hitm
  clear k0 b0 hVB hb hVT hCS hV hk hs hs2 hz2 hv2 hl hrange hix hls hRL hT0 hsz hitm
  have NB : Hid (w.heap.size < (w.alloc (.cells CS 120)).heap.size) := Lib.hid (by simp)
  go_enter Tryz.func92, Tryz.ntmps92
  have r0 := HR.out _ (Below.refl _ _)
  have R0 := Lib.hid r0
  clear r0
  go_wp2_with (refine wpList_load_mid rfl 49 (.tmp 7) rfl w.heap.size 3 rfl RL _ R0.out Tryz.underlying49 rfl (by rw [HLS.out]; kernel_rfl) ?_)
  generalize w.alloc (.cells CS 120) = W1 at *
  generalize hN : w.heap.size = N at *
  have HN := Lib.hid hN
  clear hN
  go_loopw [3, 5, 9] (fun v _ vi wr => ∃ k : Nat, vi = .int .i64 (k : Int) ∧ k ≤ 16 ∧ Hid (wr.ownsRow W1.heap.size 9 1 v (itmL n k).length ((itmL n k).map Value.string)) ∧ Hid (Bl W1.heap.size W1 wr)) (fun _ _ vi _ => 16 - (intOf vi).toNat)
  case atStart => exact ⟨0, rfl, by omega, Lib.hid ⟨rfl, .inl ⟨rfl, rfl⟩⟩, Lib.hid (Bl.start W1)⟩
  case round =>
    obtain ⟨k, rfl, hk, HO, HB⟩ := hrel
    by_cases hlt : k < 16
    · have ix := HIX.out k hlt
      have HI := Lib.hid (HIT.out k hlt)
      obtain ⟨X, hX⟩ : ∃ X, X = rf n k := ⟨_, rfl⟩
      rw [← hX] at ix HI
      have HX := Lib.hid hX
      clear hX
      have i1 : (k : Int) < 16 := by omega
      have i3 : (0 : Int) ≤ (k : Int) := by omega
      have wk : IntKind.i64.wrap ((k : Int) + 1) = (k : Int) + 1 := IntWalk.i64_in _ (by omega)
      have HK := Lib.hid hk
      have HLT := Lib.hid hlt
      clear hk hlt
      by_cases hx : X = ⟨#[]⟩
      · have HII := Lib.hid (show itmL n (k + 1) = itmL n k ++ [T0] by rw [itmL_succ, ← HX.out, HI.out, if_pos hx])
        subst hx
        go_wp2_with fail
        refine (TX.out _).mono ?_
        rintro e w5 ⟨rfl, hb5⟩
        have O5 := Lib.hid (own_far HO.out (Far.call (Far.refl (fun _ => False) wr) hb5) (fun _ _ h => h))
        have B5 := Lib.hid (HB.out.call hb5)
        clear hb5
        go_wp2_with (at_builtin; refine wpList_append_strs rfl _ _ rfl rfl W1.heap.size _ _ (itmL n k) [T0] rfl rfl (World.ownsRow.alloc O5.out _) (one_lit _ T0) (by rw [itmL_length]; simp; have := HK.out; omega) (B5.out.alloc _).2 ?_; intro v6 w6 own6 gr6 _; have B6 := Lib.hid ((B5.out.alloc _).grownRow (World.ownsRow.alloc O5.out _) (Nat.le_refl _) gr6); rw [← HII.out] at own6; have O6 := Lib.hid own6; clear own6 gr6)
        go_roundw
        case rel => exact ⟨k + 1, by go_num, by have := HLT.out; omega, O6, B6⟩
        case measure => simp [intOf]; have := HLT.out; omega
      · have HII := Lib.hid (show itmL n (k + 1) = itmL n k ++ [X] by rw [itmL_succ, ← HX.out, HI.out, if_neg hx])
        have e1 : X.toList.isEmpty = false := by
          rw [ByteArray.toList_eq, List.isEmpty_eq_false_iff]
          intro h
          exact hx (ByteArray.ext (Array.toList_inj.1 h))
        have e2 : (X.toList == []) = false := by simpa using e1
        clear hx
        go_wp2_with (at_builtin; refine wpList_append_strs rfl _ _ rfl rfl W1.heap.size _ _ (itmL n k) [X] rfl rfl (World.ownsRow.alloc HO.out _) (one_lit _ X) (by rw [itmL_length]; simp; have := HK.out; omega) (HB.out.alloc _).2 ?_; intro v6 w6 own6 gr6 _; have B6 := Lib.hid ((HB.out.alloc _).grownRow (World.ownsRow.alloc HO.out _) (Nat.le_refl _) gr6); rw [← HII.out] at own6; have O6 := Lib.hid own6; clear own6 gr6)
        go_roundw
        case rel => exact ⟨k + 1, by go_num, by have := HLT.out; omega, O6, B6⟩
        case measure => simp [intOf]; have := HLT.out; omega
    · obtain rfl : k = 16 := by omega
      have c2 : wr.cell? ⟨N, 2, none⟩ = some (.string V) := by rw [(K0.out.below HB.out.1).cell]; exact HV2.out
      go_wp2_with fail
      refine (HVT.out _).mono ?_
      rintro e w5 ⟨rfl, hb5⟩
      have O5 := Lib.hid (own_far HO.out (Far.call (Far.refl (fun _ => False) wr) hb5) (fun _ _ h => h))
      have B5 := Lib.hid (HB.out.call hb5)
      clear hb5
      obtain ⟨L, hL⟩ : ∃ L, L = itmL n 16 ++ [VB] := ⟨_, rfl⟩
      have HLL := Lib.hid (show L.length = 17 by rw [hL]; simp [itmL_length])
      have HLD := Lib.hid (show (datas L).flatten.length ≤ 4398046511104 by
        have h1 : ∀ x ∈ datas L, x.length ≤ 1048576 := by
          intro x hx
          obtain ⟨y, hy, rfl⟩ := List.mem_map.1 hx
          rw [hL] at hy
          rcases List.mem_append.1 hy with hy | hy
          · have := HSZ.out y hy; simp; omega
          · obtain rfl := List.mem_singleton.1 hy; simpa using HZ2.out
        have h2 := flatten_le (datas L) 1048576 h1
        have h3 : (datas L).length = 17 := by simp [datas, HLL.out]
        rw [h3] at h2
        omega)
      have HLE := Lib.hid hL
      go_wp2_with (at_builtin; refine wpList_append_strs rfl _ _ rfl rfl W1.heap.size _ _ (itmL n 16) [VB] rfl rfl (World.ownsRow.alloc O5.out _) (one_lit _ VB) (by rw [itmL_length]; simp) (B5.out.alloc _).2 ?_; intro v6 w6 own6 gr6 _; have B6 := Lib.hid ((B5.out.alloc _).grownRow (World.ownsRow.alloc O5.out _) (Nat.le_refl _) gr6); rw [← hL] at own6; have O6 := Lib.hid own6; clear own6 gr6)
      clear hL
      obtain ⟨A, cp, rfl, hcp, hS⟩ := Strs.of_own O6.out
      rcases hS with hS | ⟨b, o, rfl, hbl, hcl⟩
      · have := HLL.out; rw [hS] at this; cases this
      have LA := list_any b o cp L w6 hcl hbl (by rw [HLL.out]; decide) hcp (by have := HLD.out; omega)
      have HLA := Lib.hid LA
      clear LA hcl hbl hcp
      go_wp2_with fail
      refine HLA.out.mono ?_
      rintro e w7 ⟨rfl, hb7⟩
      have B7 := Lib.hid (B6.out.call hb7)
      clear hb7
      go_wp2_with fail
      go_ret
      exact ⟨by rw [← HLE.out]; rfl, by rw [HN.out]; exact (B0.out.1.trans (B7.out.1.mono (Nat.le_of_lt NB.out)))⟩
end Go.Proofs.YtfeonjiiijdibaaGreatDoor
namespace Go.Proofs.YtfeonjiiijdibaaGreatDoor
open Go.RowKit Go.Proofs.Nod
set_option linter.unusedVariables false
set_option linter.unusedSimpArgs false
variable {ops : Array Oper} {rest : List Oper} {o : Oper} {a : Act} {w : World} {Q : Exit → Act → World → Prop}
theorem info19 {cs : Array Value} (h : cs.size = 19) : (Tryz.prog.info? 51).map (·.size) = some cs.size := by rw [h]; kernel_rfl
theorem info19s {cs : Array Value} (h : cs.size = 19) : (Tryz.prog.info? 120).map (·.size) = some cs.size := by rw [h]; kernel_rfl
/-- What a node's cells are known to be, while they stay closed. -/
structure Ndc (cs : Array Value) : Prop where
  size : cs.size = 19
  one : cs.all (·.oneCell') = true
theorem Ndc.of (n : Nd) : Ndc (ndC n) := ⟨rfl, ndC_one n⟩
theorem wpList_store_nd (hgd : o.guard = none) (x y : Operand) (ho : o.op = .store 51 x y) (hd : o.dst = none) (g : Nat) (cs : Array Value) (hx : a.eval x = .pointer (some ⟨g, 0, none⟩)) (hy : a.eval y = .agg cs)
    (t : TypeId) (old : Array Value) (hg : Blk w g t old) (hc : Ndc cs) (hold : Ndc old) (h : wpList Tryz.prog ops Q rest a (w.setRow g cs)) : wpList Tryz.prog ops Q (o :: rest) a w :=
  wpList_store_rowTo hgd 51 x y ho hd g cs hx hy t old hg (info19 hc.size) (hold.size.trans hc.size.symm) hc.one h
theorem wpList_load_nd (hgd : o.guard = none) (d : Option Tmp) (hd : o.dst = d) (x : Operand) (ho : o.op = .load 51 x) (g : Nat) (hx : a.eval x = .pointer (some ⟨g, 0, none⟩)) (t : TypeId) (cs : Array Value) (hg : Blk w g t cs) (hc : Ndc cs)
    (h : wpList Tryz.prog ops Q rest (a.put d (.agg cs)) w) : wpList Tryz.prog ops Q (o :: rest) a w := by
  subst hd
  exact wpList_load_row hgd 51 x ho g hx t cs (0, 0) _ hg Tryz.underlying51 rfl (info19 hc.size) h
theorem wpList_alloc_nd (hgd : o.guard = none) (d : Option Tmp) (hd : o.dst = d) (ho : o.op = .alloc 51) (cs : Array Value) (hz : cs = ndC zeroN) (N : Nat) (hN : w.heap.size = N)
    (h : wpList Tryz.prog ops Q rest (a.put d (.pointer (some ⟨N, 0, none⟩))) (w.alloc (.cells cs 51))) : wpList Tryz.prog ops Q (o :: rest) a w := by
  subst hN
  refine Great.wpList_allocTo hgd d hd _ _ ?_ h
  rw [hz, ndC_zero]
  unfold execOp
  rw [ho]
  have := al_nd w a.eval d 51 "" none
  unfold execOp at this
  exact this
theorem built0 {cs : Array Value} (hz : cs = ndC zeroN) : Tryz.prog.built 51 [] = some cs := by
  rw [hz, ndC_zero, built_zero]
theorem wpList_build_nd0 (hg : o.guard = none) (d : Option Tmp) (hd : o.dst = d) (ho : o.op = .build 51 #[]) (cs : Array Value) (hz : cs = ndC zeroN)
    (h : wpList Tryz.prog ops Q rest (a.put d (.agg cs)) w) : wpList Tryz.prog ops Q (o :: rest) a w := by
  refine wpList_buildTo hg 51 #[] ho d hd cs ?_ h
  simp only [List.map_toArray, List.map_nil]
  exact built0 hz
set_option maxRecDepth 100000 in
theorem results_nd {fn : Func} {s s5 : Tmp} (h : fn.results = #[.cell s 51, .tmp s5]) (tmps : Array Value) (w : World) (g : Nat) (h4 : tmps[s]?.getD undef = .pointer (some ⟨g, 0, none⟩)) {x : Value} (h5 : tmps[s5]?.getD undef = x) {T : TypeId} {cs : Array Value} (hb : Blk w g T cs) (hc : Ndc cs) :
    (results fn tmps).run Tryz.prog w = .ok (.tuple #[.agg cs, x]) w := results_n2 h tmps w g h4 h5 hb hc.size
/-- A block's row is written. -/
theorem Blk.row {g : Nat} {t : TypeId} {old cs : Array Value} (h : Blk w g t old) : Blk (w.setRow g cs) g t cs := heap_setRow _ _ _ _ _ _ h
theorem Blk.rowOther {g g' : Nat} {t : TypeId} {old cs : Array Value} (h : Blk w g t old) (hne : g ≠ g') : Blk (w.setRow g' cs) g t old := h.far (S := fun i => i = g') ((Far.refl (fun i => i = g') w).setRow (fun _ => rfl) cs) hne
/-- The node that bytes are. -/
abbrev gB (s : ByteArray) : Option Nd := getB itemsB s
/-- The node in a ref, of what Get tells. -/
def inOf : Option Nd → Option Nd
  | some n => if n.kind = 0 then none else some n
  | none => none
/-- What Get hands back. -/
def Gtd (s : ByteArray) (w : World) (e : Ending) (w' : World) : Prop :=
  e = .returned (.tuple #[.agg (ndC ((gB s).getD zeroN)), .int .i64 (if (gB s).isSome then 0 else 2)]) ∧ Below w.heap.size w w'
def GetC (s : ByteArray) : Prop := ∀ W, Laid2 W → Calls Tryz.prog 33 #[.string s] W (Gtd s W)
def inB (r : ByteArray) : Option Nd := inlineK gB r
def rfrB (r : ByteArray) : Option Int := refersK gB r
def Inl (r : ByteArray) (w : World) (e : Ending) (w' : World) : Prop :=
  e = .returned (.tuple #[.agg (ndC ((inB r).getD zeroN)), .bool (inB r).isSome]) ∧ Below w.heap.size w w'
set_option maxRecDepth 100000 in
set_option maxHeartbeats 1000000 in
theorem inline_any (r : ByteArray) (w : World) (hl : Laid2 w) (hG : r.size < 32 → GetC r) : Calls Tryz.prog 68 #[.string r] w (Inl r w) := by
  obtain ⟨Z0, hZ0⟩ : ∃ z, z = ndC zeroN := ⟨_, rfl⟩
  have hz0 : Ndc Z0 := by rw [hZ0]; exact .of _
  have k0 := Blk.new w 51 Z0
  have b0 : Bl w.heap.size w (w.alloc (.cells Z0 51)) := (Bl.start w).alloc _
  have l0 : Laid2 (w.alloc (.cells Z0 51)) := hl.on b0.1 (Nat.le_refl _)
  unfold Inl
  obtain ⟨O, hO⟩ : ∃ o, o = inB r := ⟨_, rfl⟩
  rw [← hO]
  by_cases h32 : 32 ≤ r.size
  · have hn : O = none := by rw [hO]; unfold inB inlineK; rw [if_pos h32]
    subst hn
    have i1 : (32 : Int) ≤ (r.size : Int) := by omega
    have HZ := Lib.hid hZ0
    have NZ := Lib.hid hz0
    have K0 := Lib.hid k0
    have B0 := Lib.hid b0
    clear hZ0 hz0 k0 b0 hO hG hl l0 h32
    go_enter Tryz.func68, Tryz.ntmps68
    go_wp2_with (first
      | (refine wpList_alloc_nd rfl (some 2) rfl rfl Z0 HZ.out w.heap.size rfl ?_)
      | (refine wpList_build_nd0 rfl (some 9) rfl rfl Z0 HZ.out ?_)
      | (refine wpList_store_nd rfl (.tmp 2) (.tmp 9) rfl rfl w.heap.size Z0 rfl rfl 51 Z0 K0.out NZ.out NZ.out ?_))
    exact bodyPost_ret (results_nd rfl _ _ _ rfl rfl K0.out.row NZ.out) rfl ⟨by rw [HZ.out]; rfl, (Bl.setRow B0.out (Nat.le_refl _) _).1⟩
  · have hg := hG (by omega) (w.alloc (.cells Z0 51)) l0
    unfold Gtd at hg
    obtain ⟨G, hGe⟩ : ∃ g, g = gB r := ⟨_, rfl⟩
    rw [← hGe] at hg
    have hO2 : O = inOf G := by rw [hO, hGe]; unfold inB inlineK; rw [if_neg h32]; rfl
    have i1 : ¬ (32 : Int) ≤ (r.size : Int) := by omega
    obtain ⟨CS, hCS⟩ : ∃ cs, cs = ndC (G.getD zeroN) := ⟨_, rfl⟩
    have hcs : Ndc CS := by rw [hCS]; exact .of _
    have hkd : CS[0]? = some (.int .i64 (G.getD zeroN).kind) := by rw [hCS]; rfl
    rw [← hCS] at hg
    have HZ := Lib.hid hZ0
    have NZ := Lib.hid hz0
    have K0 := Lib.hid k0
    have B0 := Lib.hid b0
    have HCS := Lib.hid hCS
    have NC := Lib.hid hcs
    have HK := Lib.hid hkd
    have HG := Lib.hid hg
    have HO2 := Lib.hid hO2
    clear hZ0 hz0 k0 b0 hO hG hl l0 h32 hCS hcs hkd hg hO2 hGe
    go_enter Tryz.func68, Tryz.ntmps68
    go_wp2_with (refine wpList_alloc_nd rfl (some 2) rfl rfl Z0 HZ.out w.heap.size rfl ?_)
    refine HG.out.mono ?_
    rintro e w1 ⟨rfl, hb1⟩
    have B1 := Lib.hid (B0.out.call hb1)
    have K1 := Lib.hid (K0.out.below hb1)
    have A1 := Lib.hid (B1.out.alloc (.cells Z0 51))
    have L1 := Lib.hid (K1.out.alloc (.cells Z0 51))
    have M1 := Lib.hid (Blk.new w1 51 Z0)
    clear hb1
    have hne : w.heap.size ≠ w1.heap.size := by have := K1.out.lt; omega
    have A2 := Lib.hid (Bl.setRow A1.out (g := w1.heap.size) B1.out.2 CS)
    have L2 := Lib.hid (L1.out.rowOther (cs := CS) hne)
    have M2 := Lib.hid (M1.out.row (cs := CS))
    clear hne
    rcases G with _ | n
    · have hn : O = none := HO2.out
      subst hn
      simp only [Option.isSome_none, Bool.false_eq_true, if_false]
      go_wp2_with (first
        | (refine wpList_alloc_nd rfl (some 4) rfl rfl Z0 HZ.out w1.heap.size rfl ?_)
        | (refine wpList_store_nd rfl (.tmp 4) (.tmp 13) rfl rfl w1.heap.size CS rfl rfl 51 Z0 M1.out NC.out NZ.out ?_)
        | (refine wpList_build_nd0 rfl (some 22) rfl rfl Z0 HZ.out ?_)
        | (refine wpList_store_nd rfl (.tmp 2) (.tmp 22) rfl rfl w.heap.size Z0 rfl rfl 51 Z0 L2.out NZ.out NZ.out ?_))
      exact bodyPost_ret (results_nd rfl _ _ _ rfl rfl L2.out.row NZ.out) rfl ⟨by rw [HZ.out]; rfl, (Bl.setRow A2.out (Nat.le_refl _) _).1⟩
    · simp only [Option.isSome_some, if_true]
      have d2 : ((w1.alloc (.cells Z0 51)).setRow w1.heap.size CS).cell? ⟨w1.heap.size, 0, none⟩ = some (.int .i64 n.kind) := by rw [M2.out.cell]; exact HK.out
      by_cases h0 : n.kind = 0
      · have hn : O = none := by rw [HO2.out]; exact if_pos h0
        subst hn
        rw [h0] at d2
        clear h0
        go_wp2_with (first
          | (refine wpList_alloc_nd rfl (some 4) rfl rfl Z0 HZ.out w1.heap.size rfl ?_)
          | (refine wpList_store_nd rfl (.tmp 4) (.tmp 13) rfl rfl w1.heap.size CS rfl rfl 51 Z0 M1.out NC.out NZ.out ?_)
          | (refine wpList_build_nd0 rfl (some 22) rfl rfl Z0 HZ.out ?_)
          | (refine wpList_store_nd rfl (.tmp 2) (.tmp 22) rfl rfl w.heap.size Z0 rfl rfl 51 Z0 L2.out NZ.out NZ.out ?_))
        exact bodyPost_ret (results_nd rfl _ _ _ rfl rfl L2.out.row NZ.out) rfl ⟨by rw [HZ.out]; rfl, (Bl.setRow A2.out (Nat.le_refl _) _).1⟩
      · have hn : O = some n := by rw [HO2.out]; exact if_neg h0
        subst hn
        obtain ⟨K, hK⟩ : ∃ K, K = n.kind := ⟨_, rfl⟩
        rw [← hK] at d2 h0
        have hb : (K == 0) = false := by simpa using h0
        clear h0 hK
        go_wp2_with (first
          | (refine wpList_alloc_nd rfl (some 4) rfl rfl Z0 HZ.out w1.heap.size rfl ?_)
          | (refine wpList_store_nd rfl (.tmp 4) (.tmp 13) rfl rfl w1.heap.size CS rfl rfl 51 Z0 M1.out NC.out NZ.out ?_)
          | (refine wpList_load_nd rfl (some 23) rfl (.tmp 4) rfl w1.heap.size rfl 51 CS M2.out NC.out ?_)
          | (refine wpList_store_nd rfl (.tmp 2) (.tmp 23) rfl rfl w.heap.size CS rfl rfl 51 Z0 L2.out NC.out NZ.out ?_))
        exact bodyPost_ret (results_nd rfl _ _ _ rfl rfl L2.out.row NC.out) rfl ⟨by rw [HCS.out]; rfl, (Bl.setRow A2.out (Nat.le_refl _) _).1⟩
end Go.Proofs.YtfeonjiiijdibaaGreatDoor
namespace Go.Proofs.YtfeonjiiijdibaaGreatDoor
open Go.RowKit Go.Proofs.Nod
set_option linter.unusedVariables false
set_option linter.unusedSimpArgs false
def Rfr (r : ByteArray) (w : World) (e : Ending) (w' : World) : Prop :=
  e = .returned (.tuple #[.int .i64 ((rfrB r).getD 0), .bool (rfrB r).isSome]) ∧ Below w.heap.size w w'
set_option maxRecDepth 100000 in
set_option maxHeartbeats 1000000 in
theorem refers_any (r : ByteArray) (w : World) (hl : Laid2 w) (hG : r.size < 32 → GetC r) : Calls Tryz.prog 132 #[.string r] w (Rfr r w) := by
  have hh := hash_any r w
  have hi := fun W h => inline_any r W h hG
  unfold Inl at hi
  unfold Rfr
  have hr : rfrB r = if (hashB r).isSome = true then some 0 else (inB r).map (·.kind) := rfl
  obtain ⟨H, hH⟩ : ∃ h, h = hashB r := ⟨_, rfl⟩
  obtain ⟨I, hI⟩ : ∃ i, i = inB r := ⟨_, rfl⟩
  obtain ⟨R, hR⟩ : ∃ i, i = rfrB r := ⟨_, rfl⟩
  rw [← hH] at hh hr
  rw [← hI] at hi hr
  rw [← hR] at hr ⊢
  obtain ⟨CS, hCS⟩ : ∃ cs, cs = ndC (I.getD zeroN) := ⟨_, rfl⟩
  have hcs : Ndc CS := by rw [hCS]; exact .of _
  have hkd : CS[0]? = some (.int .i64 (I.getD zeroN).kind) := by rw [hCS]; rfl
  rw [← hCS] at hi
  obtain ⟨Z0, hZ0⟩ : ∃ z, z = ndC zeroN := ⟨_, rfl⟩
  have hz0 : Ndc Z0 := by rw [hZ0]; exact .of _
  have HZ := Lib.hid hZ0
  have NZ := Lib.hid hz0
  have NC := Lib.hid hcs
  have HKD := Lib.hid hkd
  have HH := Lib.hid hh
  have HI := Lib.hid hi
  have HL := Lib.hid hl
  clear hZ0 hz0 hcs hkd hh hi hl hH hI hR hCS hG
  rcases H with _ | h
  · have hr2 : R = I.map (·.kind) := hr
    have hr3 : R.getD 0 = (I.getD zeroN).kind ∧ R.isSome = I.isSome := by rw [hr2]; cases I <;> exact ⟨rfl, rfl⟩
    obtain ⟨h3, h4⟩ := hr3
    generalize (I.getD zeroN).kind = K at *
    generalize I.isSome = S at *
    have H3 := Lib.hid h3
    have H4 := Lib.hid h4
    clear hr hr2 h3 h4
    go_enter Tryz.func132, Tryz.ntmps132
    go_wp2_with fail
    refine HH.out.mono ?_
    rintro e w1 ⟨rfl, hb1⟩
    have B1 := Lib.hid hb1
    clear hb1
    go_wp2_with fail
    refine (HI.out w1 (HL.out.on B1.out (Nat.le_refl _))).mono ?_
    rintro e w2 ⟨rfl, hb2⟩
    have B2 := Lib.hid ((Bl.start w).call B1.out |>.call hb2)
    have M1 := Lib.hid (Blk.new w2 51 Z0)
    have M2 := Lib.hid (M1.out.row (cs := CS))
    have A2 := Lib.hid (Bl.setRow (B2.out.alloc (.cells Z0 51)) (g := w2.heap.size) B2.out.2 CS)
    clear hb2
    have d2 : ((w2.alloc (.cells Z0 51)).setRow w2.heap.size CS).cell? ⟨w2.heap.size, 0, none⟩ = some (.int .i64 K) := by rw [M2.out.cell]; exact HKD.out
    go_wp2_with (first
      | (refine wpList_alloc_nd rfl (some 6) rfl rfl Z0 HZ.out w2.heap.size rfl ?_)
      | (refine wpList_store_nd rfl (.tmp 6) (.tmp 17) rfl rfl w2.heap.size CS rfl rfl 51 Z0 M1.out NC.out NZ.out ?_))
    go_ret2
    exact ⟨by rw [H3.out, H4.out]; rfl, A2.out.1⟩
  · have hr2 : R = some 0 := hr
    subst hr2
    go_enter Tryz.func132, Tryz.ntmps132
    go_wp2_with fail
    refine HH.out.mono ?_
    rintro e w1 ⟨rfl, hb1⟩
    have B1 := Lib.hid hb1
    clear hb1
    go_wp2_with fail
    go_ret2
    exact ⟨rfl, B1.out⟩
end Go.Proofs.YtfeonjiiijdibaaGreatDoor
namespace Go.Proofs.Nod
def rfs (n : Nd) : List ByteArray := (List.range 16).map (rf n)
theorem rfs_length (n : Nd) : (rfs n).length = 16 := by simp [rfs]
theorem rfs_eq (n : Nd) (h : n.refs.length = 16) : rfs n = n.refs := by
  apply List.ext_getElem
  · simp [rfs, h]
  · intro i h1 h2
    simp only [rfs, List.getElem_map, List.getElem_range, rf, List.getD_eq_getElem?_getD, List.getElem?_eq_getElem h2, Option.getD_some]
theorem nd_eq (n m : Nd) (hn : n.refs.length = 16) (hm : m.refs.length = 16) : decide (n = m) = (decide (n.kind = m.kind) && (decide (n.path = m.path) && (decide (n.value = m.value) && decide (rfs n = rfs m)))) := by
  rw [rfs_eq n hn, rfs_eq m hm]
  obtain ⟨a, b, c, d⟩ := n
  obtain ⟨a', b', c', d'⟩ := m
  rw [Bool.eq_iff_iff]
  simp
end Go.Proofs.Nod
namespace Go.Proofs.YtfeonjiiijdibaaGreatDoor
open Go.RowKit Go.Proofs.Nod
set_option linter.unusedVariables false
set_option linter.unusedSimpArgs false
theorem all_range_eqB : ∀ (xs ys : List ByteArray), xs.length = ys.length → ((List.range xs.length).all fun i => decide (xs.getD i e0 = ys.getD i e0)) = decide (xs = ys)
  | [], [], _ => rfl
  | x :: xs, y :: ys, h => by
    have ih := all_range_eqB xs ys (by simpa using h)
    rw [List.length_cons, List.range_succ_eq_map, List.all_cons, List.all_map]
    simp only [List.getD_cons_zero, Function.comp_def, List.getD_cons_succ, ih]
    rw [Bool.eq_iff_iff]
    simp
  | [], _ :: _, h => by simp at h
  | _ :: _, [], h => by simp at h
theorem eqIn_strs (d : Nat) (t : TypeId) (ht : Tryz.prog.underlying t = some (.array 16 9)) (xs ys : List ByteArray) (hx : xs.length = 16) (hy : ys.length = 16) (w : World) :
    (Op.equalIn (d + 2) t (.agg (xs.map Value.string).toArray) (.agg (ys.map Value.string).toArray)).run Tryz.prog w = .ok (decide (xs = ys)) w := by
  have hsz : ∀ w, (sizeOf 9).run Tryz.prog w = .ok 1 w := fun w => by kernel_rfl
  rw [← all_range_eqB xs ys (hx.trans hy.symm), hx, List.range_eq_range', Op.equalIn]
  simp only [Sem.run_bind, run_underlying ht, Result.andThen_ok, hsz, Std.Legacy.Range.forIn_eq_forIn_range', Std.Legacy.Range.size, Nat.sub_zero, Nat.add_sub_cancel, Nat.div_one]
  have hl : ∀ i ∈ List.range' 0 16 1, i < 16 := fun i hi => by simpa using (List.mem_range'_1.1 hi).2
  generalize List.range' 0 16 1 = l at hl ⊢
  induction l with
  | nil => simp
  | cons i l ih =>
    have hi : i < 16 := hl i (by simp)
    have px : (part 9 (xs.map Value.string).toArray (i * 1)).run Tryz.prog w = .ok (.string (xs.getD i e0)) w := by
      simp [part, isAggS, List.getD, List.getElem?_eq_getElem (show i < xs.length by omega)]
    have py : (part 9 (ys.map Value.string).toArray (i * 1)).run Tryz.prog w = .ok (.string (ys.getD i e0)) w := by
      simp [part, isAggS, List.getD, List.getElem?_eq_getElem (show i < ys.length by omega)]
    have pe : (Op.equalIn (d + 1) 9 (.string (xs.getD i e0)) (.string (ys.getD i e0))).run Tryz.prog w = .ok (decide (xs.getD i e0 = ys.getD i e0)) w := by
      rw [run_equalIn_string w d 9 _ _ Tryz.underlying9, bytes_eq]
    simp only [List.forIn_cons, Sem.run_bind, px, py, pe, Result.andThen_ok, List.all_cons]
    cases hb : decide (xs.getD i e0 = ys.getD i e0)
    · simp
    · simp only [Bool.not_true, Bool.false_eq_true, if_false, Sem.run_pure, Result.andThen_ok, Bool.true_and]
      exact ih fun j hj => hl j (by simp [hj])
theorem nd_part (n : Nd) (w : World) : (part 49 (ndC n) 3).run Tryz.prog w = .ok (.agg ((rfs n).map Value.string).toArray) w := by kernel_rfl
theorem nd_part0 (n : Nd) (w : World) : (part 48 (ndC n) 0).run Tryz.prog w = .ok (.int .i64 n.kind) w := by kernel_rfl
theorem nd_part1 (n : Nd) (w : World) : (part 9 (ndC n) 1).run Tryz.prog w = .ok (.string n.path) w := by kernel_rfl
theorem nd_part2 (n : Nd) (w : World) : (part 9 (ndC n) 2).run Tryz.prog w = .ok (.string n.value) w := by kernel_rfl
theorem eqIn_nd (n m : Nd) (hn : n.refs.length = 16) (hm : m.refs.length = 16) (w : World) : (Op.equalIn 10000 51 (.agg (ndC n)) (.agg (ndC m))).run Tryz.prog w = .ok (decide (n = m)) w := by
  rw [nd_eq n m hn hm]
  rw [run_equalIn_struct w 9999 51 _ _ (by kernel_rfl) (by kernel_rfl)]
  simp only [Program.fieldsOf, Tryz.underlying51, Op.eqFields]
  have h3 := eqIn_strs 9997 49 Tryz.underlying49 (rfs n) (rfs m) (rfs_length n) (rfs_length m) w
  have hk := run_equalIn_int (P := Tryz.prog) w 9998 48 .i64 .i64 n.kind m.kind Tryz.underlying48
  have hp := run_equalIn_string (P := Tryz.prog) w 9998 9 n.path m.path Tryz.underlying9
  have hv := run_equalIn_string (P := Tryz.prog) w 9998 9 n.value m.value Tryz.underlying9
  rw [bytes_eq] at hp hv
  rw [show (n.kind == m.kind) = decide (n.kind = m.kind) from rfl] at hk
  simp only [Nat.reduceAdd] at h3 hk hp hv
  simp only [reduceIte, ne_eq, String.reduceEq, not_false_eq_true, Sem.run_bind, nd_part0, nd_part1, nd_part2, nd_part, Result.andThen_ok, hk, hp, hv, h3]
  generalize decide (n.kind = m.kind) = a at *
  generalize decide (n.path = m.path) = b at *
  generalize decide (n.value = m.value) = c at *
  generalize decide (rfs n = rfs m) = d at *
  cases a <;> cases b <;> cases c <;> cases d <;> simp [hp, hv, h3, nd_part0, nd_part1, nd_part2, nd_part]
theorem eql_nd (n m : Nd) (hn : n.refs.length = 16) (hm : m.refs.length = 16) (w : World) : (binOp .eql 51 (.agg (ndC n)) (.agg (ndC m))).run Tryz.prog w = .ok (.bool (decide (n = m))) w := by
  rw [run_eql_struct, eqIn_nd n m hn hm w]
  rfl
theorem neq_nd (n m : Nd) (hn : n.refs.length = 16) (hm : m.refs.length = 16) (w : World) : (binOp .neq 51 (.agg (ndC n)) (.agg (ndC m))).run Tryz.prog w = .ok (.bool (!decide (n = m))) w := by
  rw [run_neq_struct, eqIn_nd n m hn hm w]
  rfl
theorem guard_nd (op : BinOp) (x y : Operand) (xs ys : Array Value) (w : World) : (eqGuard op 51 x y (.agg xs) (.agg ys)).run Tryz.prog w = .ok () w := run_eqGuard_agg w op 51 x y xs ys (by kernel_rfl)
end Go.Proofs.YtfeonjiiijdibaaGreatDoor
namespace Go.Proofs.YtfeonjiiijdibaaGreatDoor
open Go.RowKit Go.Proofs.Nod
set_option linter.unusedVariables false
set_option linter.unusedSimpArgs false
section
variable {ops : Array Oper} {rest : List Oper} {o : Oper} {a : Act} {w : World} {Q : Exit → Act → World → Prop}
theorem wpList_eql_nd (hg : o.guard = none) (d : Option Tmp) (hd : o.dst = d) (x y : Operand) (ho : o.op = .binOp .eql 51 x y 51) (xs ys : Array Value) (hx : a.eval x = .agg xs) (hy : a.eval y = .agg ys) (b : Bool)
    (he : (binOp .eql 51 (.agg xs) (.agg ys)).run Tryz.prog w = .ok (.bool b) w)
    (h : wpList Tryz.prog ops Q rest (a.put d (.bool b)) w) : wpList Tryz.prog ops Q (o :: rest) a w := by
  refine Great.wpList_readTo hg d hd (.bool b) ?_ h
  unfold execOp
  simp only [ho, Sem.run_bind, hx, hy, guard_nd, Result.andThen_ok, he, Sem.run_pure]
theorem builtL {cs : Array Value} {p v : ByteArray} (h : cs = ndC (leafN p v)) : Tryz.prog.built 51 [(0, .int .i64 1), (1, .string p), (2, .string v)] = some cs := by rw [h, ndC_leaf, built_leaf]
theorem built_leaf_of {cs : Array Value} {p v : ByteArray} {x : Value} {i j : Operand} (h : cs = ndC (leafN p v)) (hx : x = .int .i64 1) (hi : a.eval i = .string p) (hj : a.eval j = .string v) :
    Tryz.prog.built 51 ((#[(0, .const x), (1, i), (2, j)] : Array (Nat × Operand)).map fun (i, x) => (i, a.eval x)).toList = some cs := by
  simp only [List.map_toArray, List.map_cons, List.map_nil]
  rw [hi, hj, show a.eval (.const x) = x from rfl, hx]
  exact builtL h
theorem wpList_build_leaf (hg : o.guard = none) (d : Option Tmp) (hd : o.dst = d) (i j : Operand) (ho : o.op = .build 51 #[(0, .const (.int .i64 1)), (1, i), (2, j)]) (p v : ByteArray) (hi : a.eval i = .string p) (hj : a.eval j = .string v)
    (cs : Array Value) (hz : cs = ndC (leafN p v)) (h : wpList Tryz.prog ops Q rest (a.put d (.agg cs)) w) : wpList Tryz.prog ops Q (o :: rest) a w :=
  wpList_buildTo hg 51 _ ho d hd cs (built_leaf_of hz rfl hi hj) h
end
set_option maxRecDepth 100000 in
set_option maxHeartbeats 1000000 in
theorem mnone_any (n : Nd) (w : World) (h16 : n.refs.length = 16) : Calls Tryz.prog 95 #[.agg (ndC n)] w fun e w' => e = .returned (.bool (decide (n = zeroN))) ∧ Below w.heap.size w w' := by
  have he := fun W => eql_nd n zeroN h16 rfl W
  have k0 := Blk.new w 120 (ndC n)
  have b0 : Bl w.heap.size w (w.alloc (.cells (ndC n) 120)) := (Bl.start w).alloc _
  obtain ⟨CS, hCS⟩ : ∃ cs, cs = ndC n := ⟨_, rfl⟩
  have hcs : Ndc CS := by rw [hCS]; exact .of _
  obtain ⟨Z0, hZ0⟩ : ∃ z, z = ndC zeroN := ⟨_, rfl⟩
  obtain ⟨B, hB⟩ : ∃ b, b = decide (n = zeroN) := ⟨_, rfl⟩
  rw [← hCS, ← hZ0, ← hB] at he
  rw [← hB]
  rw [← hCS] at k0 b0 ⊢
  have HE := Lib.hid he
  have K0 := Lib.hid k0
  have B0 := Lib.hid b0
  have NC := Lib.hid hcs
  have HZ := Lib.hid hZ0
  clear he k0 b0 hcs hZ0 hB hCS h16
  go_enter Tryz.func95, Tryz.ntmps95
  go_wp2_with (first
    | (refine wpList_load_nd rfl (some 4) rfl (.tmp 3) rfl w.heap.size rfl 120 CS K0.out NC.out ?_)
    | (refine wpList_build_nd0 rfl (some 5) rfl rfl Z0 HZ.out ?_)
    | (refine wpList_eql_nd rfl (some 6) rfl (.tmp 4) (.tmp 5) rfl CS Z0 rfl rfl B (HE.out _) ?_))
  go_ret
  exact ⟨rfl, B0.out.1⟩
theorem not_empty {X : ByteArray} (hx : ¬ X = ⟨#[]⟩) : X.toList.isEmpty = false := by
  rw [ByteArray.toList_eq, List.isEmpty_eq_false_iff]
  intro h
  exact hx (ByteArray.ext (Array.toList_inj.1 h))
set_option maxRecDepth 100000 in
set_option maxHeartbeats 2000000 in
theorem mleaf_any (n : Nd) (w : World) (h16 : n.refs.length = 16) : Calls Tryz.prog 96 #[.agg (ndC n)] w fun e w' =>
    e = .returned (.bool (decide (n = leafN n.path n.value) && (decide (n.path.size ≤ 12) && (Nib.valid n.path.data.toList && (decide (n.value ≠ e0) && decide (n.value.size ≤ 80)))))) ∧ Below w.heap.size w w' := by
  have he := fun W => eql_nd n (leafN n.path n.value) h16 rfl W
  have k0 := Blk.new w 120 (ndC n)
  have b0 : Bl w.heap.size w (w.alloc (.cells (ndC n) 120)) := (Bl.start w).alloc _
  have hval := fun W (h : n.path.size ≤ 12) => valid_any n.path W (by omega)
  have c1 : (w.alloc (.cells (ndC n) 120)).cell? ⟨w.heap.size, 1, none⟩ = some (.string n.path) := by rw [k0.cell]; rfl
  have c2 : (w.alloc (.cells (ndC n) 120)).cell? ⟨w.heap.size, 2, none⟩ = some (.string n.value) := by rw [k0.cell]; rfl
  obtain ⟨LS, hLS⟩ : ∃ z, z = ndC (leafN n.path n.value) := ⟨_, rfl⟩
  obtain ⟨B, hB⟩ : ∃ b, b = decide (n = leafN n.path n.value) := ⟨_, rfl⟩
  rw [← hLS, ← hB] at he
  rw [← hB]
  obtain ⟨V, hV⟩ : ∃ b, b = Nib.valid n.path.data.toList := ⟨_, rfl⟩
  rw [← hV] at hval ⊢
  obtain ⟨CS, hCS⟩ : ∃ cs, cs = ndC n := ⟨_, rfl⟩
  have hcs : Ndc CS := by rw [hCS]; exact .of _
  rw [← hCS] at he k0 b0 c1 c2 ⊢
  obtain ⟨P, hP⟩ : ∃ p, p = n.path := ⟨_, rfl⟩
  obtain ⟨U, hU⟩ : ∃ p, p = n.value := ⟨_, rfl⟩
  rw [← hP] at hval c1 hLS ⊢
  rw [← hU] at c2 hLS ⊢
  have HE := Lib.hid he
  have K0 := Lib.hid k0
  have B0 := Lib.hid b0
  have NC := Lib.hid hcs
  have HB := Lib.hid hLS
  have HV := Lib.hid hval
  clear he k0 b0 hcs hB hCS h16 hLS hV hP hU hval
  rcases B with _ | _
  · go_enter Tryz.func96, Tryz.ntmps96
    go_wp2_with (first
      | (refine wpList_load_nd rfl (some 4) rfl (.tmp 3) rfl w.heap.size rfl 120 CS K0.out NC.out ?_)
      | (refine wpList_build_leaf rfl (some 11) rfl (.tmp 7) (.tmp 10) rfl _ _ rfl rfl LS HB.out ?_)
      | (refine wpList_eql_nd rfl (some 12) rfl (.tmp 4) (.tmp 11) rfl CS LS rfl rfl _ (HE.out _) ?_))
    go_ret
    exact ⟨rfl, B0.out.1⟩
  · by_cases hp : P.size ≤ 12
    · have i1 : (P.size : Int) ≤ 12 := by omega
      have HD := Lib.hid (decide_eq_true hp)
      clear hp
      rcases V with _ | _
      · go_enter Tryz.func96, Tryz.ntmps96
        go_wp2_with (first
          | (refine wpList_load_nd rfl (some 4) rfl (.tmp 3) rfl w.heap.size rfl 120 CS K0.out NC.out ?_)
          | (refine wpList_build_leaf rfl (some 11) rfl (.tmp 7) (.tmp 10) rfl _ _ rfl rfl LS HB.out ?_)
          | (refine wpList_eql_nd rfl (some 12) rfl (.tmp 4) (.tmp 11) rfl CS LS rfl rfl _ (HE.out _) ?_)
          | (go_at_call 131; refine (HV.out _ (of_decide_eq_true HD.out)).mono ?_; rintro e w' ⟨rfl, rfl⟩))
        go_ret
        exact ⟨by rw [HD.out]; rfl, B0.out.1⟩
      · by_cases hu : U = ⟨#[]⟩
        · subst hu
          go_enter Tryz.func96, Tryz.ntmps96
          go_wp2_with (first
            | (refine wpList_load_nd rfl (some 4) rfl (.tmp 3) rfl w.heap.size rfl 120 CS K0.out NC.out ?_)
            | (refine wpList_build_leaf rfl (some 11) rfl (.tmp 7) (.tmp 10) rfl _ _ rfl rfl LS HB.out ?_)
            | (refine wpList_eql_nd rfl (some 12) rfl (.tmp 4) (.tmp 11) rfl CS LS rfl rfl _ (HE.out _) ?_)
            | (go_at_call 131; refine (HV.out _ (of_decide_eq_true HD.out)).mono ?_; rintro e w' ⟨rfl, rfl⟩))
          go_ret
          exact ⟨by rw [HD.out]; rfl, B0.out.1⟩
        · have e1 := not_empty hu
          have HU := Lib.hid (show decide (U ≠ e0) = true from decide_eq_true hu)
          clear hu
          by_cases hz : U.size ≤ 80
          · have i2 : (U.size : Int) ≤ 80 := by omega
            have HZ := Lib.hid (decide_eq_true hz)
            clear hz
            go_enter Tryz.func96, Tryz.ntmps96
            go_wp2_with (first
              | (refine wpList_load_nd rfl (some 4) rfl (.tmp 3) rfl w.heap.size rfl 120 CS K0.out NC.out ?_)
              | (refine wpList_build_leaf rfl (some 11) rfl (.tmp 7) (.tmp 10) rfl _ _ rfl rfl LS HB.out ?_)
              | (refine wpList_eql_nd rfl (some 12) rfl (.tmp 4) (.tmp 11) rfl CS LS rfl rfl _ (HE.out _) ?_)
              | (go_at_call 131; refine (HV.out _ (of_decide_eq_true HD.out)).mono ?_; rintro e w' ⟨rfl, rfl⟩))
            go_ret
            exact ⟨by rw [HD.out, HU.out, HZ.out]; rfl, B0.out.1⟩
          · have i2 : decide ((U.size : Int) ≤ 80) = false := by simp; omega
            have HZ := Lib.hid (decide_eq_false hz)
            clear hz
            go_enter Tryz.func96, Tryz.ntmps96
            go_wp2_with (first
              | (refine wpList_load_nd rfl (some 4) rfl (.tmp 3) rfl w.heap.size rfl 120 CS K0.out NC.out ?_)
              | (refine wpList_build_leaf rfl (some 11) rfl (.tmp 7) (.tmp 10) rfl _ _ rfl rfl LS HB.out ?_)
              | (refine wpList_eql_nd rfl (some 12) rfl (.tmp 4) (.tmp 11) rfl CS LS rfl rfl _ (HE.out _) ?_)
              | (go_at_call 131; refine (HV.out _ (of_decide_eq_true HD.out)).mono ?_; rintro e w' ⟨rfl, rfl⟩))
            go_ret
            exact ⟨by rw [HD.out, HU.out, HZ.out]; rfl, B0.out.1⟩
    · have i1 : ¬ (P.size : Int) ≤ 12 := by omega
      have HD := Lib.hid (decide_eq_false hp)
      clear hp
      go_enter Tryz.func96, Tryz.ntmps96
      go_wp2_with (first
        | (refine wpList_load_nd rfl (some 4) rfl (.tmp 3) rfl w.heap.size rfl 120 CS K0.out NC.out ?_)
        | (refine wpList_build_leaf rfl (some 11) rfl (.tmp 7) (.tmp 10) rfl _ _ rfl rfl LS HB.out ?_)
        | (refine wpList_eql_nd rfl (some 12) rfl (.tmp 4) (.tmp 11) rfl CS LS rfl rfl _ (HE.out _) ?_))
      go_ret
      exact ⟨by rw [HD.out]; rfl, B0.out.1⟩
end Go.Proofs.YtfeonjiiijdibaaGreatDoor
namespace Go.Proofs.YtfeonjiiijdibaaGreatDoor
open Go.RowKit Go.Proofs.Nod
set_option linter.unusedVariables false
set_option linter.unusedSimpArgs false
section
variable {ops : Array Oper} {rest : List Oper} {o : Oper} {a : Act} {w : World} {Q : Exit → Act → World → Prop}
theorem built_ext_of {cs : Array Value} {p : ByteArray} {x : Value} {i : Operand} (h : cs = ndC (extN p e0)) (hx : x = .int .i64 2) (hi : a.eval i = .string p) :
    Tryz.prog.built 51 ((#[(0, .const x), (1, i)] : Array (Nat × Operand)).map fun (i, x) => (i, a.eval x)).toList = some cs := by
  simp only [List.map_toArray, List.map_cons, List.map_nil]
  rw [hi, show a.eval (.const x) = x from rfl, hx, h, ndC_ext, built_ext]
  rfl
theorem wpList_build_ext (hg : o.guard = none) (d : Option Tmp) (hd : o.dst = d) (i : Operand) (ho : o.op = .build 51 #[(0, .const (.int .i64 2)), (1, i)]) (p : ByteArray) (hi : a.eval i = .string p)
    (cs : Array Value) (hz : cs = ndC (extN p e0)) (h : wpList Tryz.prog ops Q rest (a.put d (.agg cs)) w) : wpList Tryz.prog ops Q (o :: rest) a w :=
  wpList_buildTo hg 51 _ ho d hd cs (built_ext_of hz rfl hi) h
end
theorem ext_set (p x : ByteArray) : (ndC (extN p e0)).setIfInBounds 3 (.string x) = ndC (extN p x) := by kernel_rfl
def extB (n : Nd) : Bool :=
  decide (n = extN n.path (rf n 0)) && (decide (n.path ≠ e0) && (decide (n.path.size ≤ 12) && (Nib.valid n.path.data.toList && ((rfrB (rf n 0)).isSome && (decide ((rfrB (rf n 0)).getD 0 = 0) || decide ((rfrB (rf n 0)).getD 0 = 3))))))
set_option maxRecDepth 100000 in
set_option maxHeartbeats 4000000 in
theorem mext_any (n : Nd) (w : World) (h16 : n.refs.length = 16) (hl : Laid2 w) (hG : (rf n 0).size < 32 → GetC (rf n 0)) :
    Calls Tryz.prog 97 #[.agg (ndC n)] w fun e w' => e = .returned (.bool (extB n)) ∧ Below w.heap.size w w' := by
  have he := fun W => eql_nd n (extN n.path (rf n 0)) h16 rfl W
  have k0 := Blk.new w 120 (ndC n)
  have b0 : Bl w.heap.size w (w.alloc (.cells (ndC n) 120)) := (Bl.start w).alloc _
  have hval := fun W (h : n.path.size ≤ 12) => valid_any n.path W (by omega)
  have hrf := fun W h => refers_any (rf n 0) W h hG
  unfold Rfr at hrf
  have c1 : (w.alloc (.cells (ndC n) 120)).cell? ⟨w.heap.size, 1, none⟩ = some (.string n.path) := by rw [k0.cell]; rfl
  have c3 : (ndC n)[3]? = some (.string (rf n 0)) := rfl
  have hset := ext_set n.path (rf n 0)
  have c0 : (ndC n)[1]? = some (.string n.path) := rfl
  unfold extB
  obtain ⟨B, hB⟩ : ∃ b, b = decide (n = extN n.path (rf n 0)) := ⟨_, rfl⟩
  obtain ⟨X, hX⟩ : ∃ x, x = rf n 0 := ⟨_, rfl⟩
  obtain ⟨P, hP⟩ : ∃ x, x = n.path := ⟨_, rfl⟩
  rw [← hB] at he ⊢
  rw [← hX, ← hP] at he hset
  rw [← hX] at hrf c3 ⊢
  rw [← hP] at hval c1 c0 ⊢
  obtain ⟨E0, hE0⟩ : ∃ z, z = ndC (extN P e0) := ⟨_, rfl⟩
  obtain ⟨E1, hE1⟩ : ∃ z, z = ndC (extN P X) := ⟨_, rfl⟩
  rw [← hE1] at he hset
  have ne0 : Ndc E0 := by rw [hE0]; exact .of _
  have ne1 : Ndc E1 := by rw [hE1]; exact .of _
  have g3 : E0[3]? = some (.string ⟨#[]⟩) := by rw [hE0]; rfl
  rw [← hE0] at hset
  obtain ⟨V, hV⟩ : ∃ b, b = Nib.valid P.data.toList := ⟨_, rfl⟩
  rw [← hV] at hval ⊢
  obtain ⟨CS, hCS⟩ : ∃ cs, cs = ndC n := ⟨_, rfl⟩
  have hcs : Ndc CS := by rw [hCS]; exact .of _
  rw [← hCS] at he k0 b0 c1 c3 c0 ⊢
  obtain ⟨Z0, hZ0⟩ : ∃ z, z = ndC zeroN := ⟨_, rfl⟩
  have nz : Ndc Z0 := by rw [hZ0]; exact .of _
  obtain ⟨S, hS⟩ : ∃ s, s = (rfrB X).isSome := ⟨_, rfl⟩
  obtain ⟨K, hK⟩ : ∃ s, s = (rfrB X).getD 0 := ⟨_, rfl⟩
  rw [← hS, ← hK] at hrf ⊢
  -- the worlds
  obtain ⟨N, hN⟩ : ∃ N, N = w.heap.size := ⟨_, rfl⟩
  have k1 : Blk ((w.alloc (.cells CS 120)).alloc (.cells Z0 51)) (w.heap.size + 1) 51 Z0 := by have := Blk.new (w.alloc (.cells CS 120)) 51 Z0; simpa using this
  have k2 := k1.row (cs := E0)
  have m2 := (k0.alloc (.cells Z0 51)).rowOther (g' := w.heap.size + 1) (cs := E0) (by omega)
  have a2 := Bl.setRow (b0.alloc (.cells Z0 51)) (g := w.heap.size + 1) (by omega) E0
  have k3 := k2.set 3 (.string X)
  rw [hset] at k3
  have m3 := m2.other (p := ⟨w.heap.size + 1, 3, none⟩) (by simp) (.string X)
  have a3 := a2.setCell (p := ⟨w.heap.size + 1, 3, none⟩) (by simp) (.string X)
  have d3 : (((w.alloc (.cells CS 120)).alloc (.cells Z0 51)).setRow (w.heap.size + 1) E0).cell? ⟨w.heap.size + 1, 3, none⟩ = some (.string ⟨#[]⟩) := by rw [k2.cell]; exact g3
  have f3 := k2.frozen 3
  have n3 : (((w.alloc (.cells CS 120)).alloc (.cells Z0 51)).setRow (w.heap.size + 1) E0).cell? ⟨w.heap.size, 3, none⟩ = some (.string X) := by rw [m2.cell]; exact c3
  have HE := Lib.hid he
  have HV := Lib.hid hval
  have HRF := Lib.hid hrf
  have C0 := Lib.hid c0
  have C3 := Lib.hid c3
  have HE0 := Lib.hid hE0
  have NE0 := Lib.hid ne0
  have NE1 := Lib.hid ne1
  have NC := Lib.hid hcs
  have HZ := Lib.hid hZ0
  have NZ := Lib.hid nz
  have K1 := Lib.hid k1
  have K3 := Lib.hid k3
  have M3 := Lib.hid m3
  have A3 := Lib.hid a3
  have HL := Lib.hid hl
  have HN := Lib.hid hN
  clear he hval hrf c0 c3 hE0 ne0 ne1 hcs hZ0 nz k0 b0 k1 k2 m2 a2 k3 m3 a3 hl hN hset hB hX hP hE1 g3 hV hCS hS hK h16 hG
  go_enter Tryz.func97, Tryz.ntmps97
  go_upto_region 3 with (first
    | (refine wpList_build_ext rfl (some 9) rfl (.tmp 8) rfl _ rfl E0 HE0.out ?_)
    | (refine wpList_alloc_nd rfl (some 3) rfl rfl Z0 HZ.out (w.heap.size + 1) (World.size_alloc _ _) ?_)
    | (refine wpList_store_nd rfl (.tmp 3) (.tmp 9) rfl rfl (w.heap.size + 1) E0 rfl rfl 51 Z0 K1.out NE0.out NZ.out ?_))
  generalize ((((w.alloc (.cells CS 120)).alloc (.cells Z0 51)).setRow (w.heap.size + 1) E0).setCell ⟨w.heap.size + 1, 3, none⟩ (.string X)) = W3 at *
  clear d3 f3 n3 c1
  have e3 : W3.cell? ⟨w.heap.size, 3, none⟩ = some (.string X) := by rw [M3.out.cell]; exact C3.out
  go_upto_region 4 with ((go_at_call 132; refine (HRF.out _ (HL.out.on A3.out.1 (Nat.le_refl _))).mono ?_; rintro e w4 ⟨rfl, hb4⟩; have B4 := Lib.hid (A3.out.call hb4); have M4 := Lib.hid (M3.out.below hb4); have K4 := Lib.hid (K3.out.below hb4); clear hb4))
  have c4 : w4.cell? ⟨w.heap.size, 1, none⟩ = some (.string P) := by rw [M4.out.cell]; exact C0.out
  clear e3
  rcases B with _ | _
  · skip
    go_wp2_with (first
      | (refine wpList_load_nd rfl (some 25) rfl (.tmp 24) rfl w.heap.size rfl 120 CS M4.out NC.out ?_)
      | (refine wpList_load_nd rfl (some 26) rfl (.tmp 3) rfl (w.heap.size + 1) rfl 51 E1 K4.out NE1.out ?_)
      | (refine wpList_eql_nd rfl (some 27) rfl (.tmp 25) (.tmp 26) rfl CS E1 rfl rfl _ (HE.out _) ?_)
      | (go_at_call 131; refine (HV.out _ (of_decide_eq_true HD.out)).mono ?_; rintro e w' ⟨rfl, rfl⟩))
    go_ret
    exact ⟨by first | rfl | (rw [HQ.out, HD.out, HK0.out, HK3.out]; rfl) | (rw [HQ.out, HD.out, HK0.out]; rfl) | (rw [HQ.out, HD.out]; rfl) | (rw [HQ2.out, HD.out]; rfl), B4.out.1⟩
  · by_cases hp : P = ⟨#[]⟩
    · subst hp
      go_wp2_with (first
        | (refine wpList_load_nd rfl (some 25) rfl (.tmp 24) rfl w.heap.size rfl 120 CS M4.out NC.out ?_)
        | (refine wpList_load_nd rfl (some 26) rfl (.tmp 3) rfl (w.heap.size + 1) rfl 51 E1 K4.out NE1.out ?_)
        | (refine wpList_eql_nd rfl (some 27) rfl (.tmp 25) (.tmp 26) rfl CS E1 rfl rfl _ (HE.out _) ?_)
        | (go_at_call 131; refine (HV.out _ (of_decide_eq_true HD.out)).mono ?_; rintro e w' ⟨rfl, rfl⟩))
      go_ret
      exact ⟨by first | rfl | (rw [HQ.out, HD.out, HK0.out, HK3.out]; rfl) | (rw [HQ.out, HD.out, HK0.out]; rfl) | (rw [HQ.out, HD.out]; rfl) | (rw [HQ2.out, HD.out]; rfl), B4.out.1⟩
    · have e1 := not_empty hp
      have HQ := Lib.hid (show decide (P ≠ e0) = true from decide_eq_true hp)
      have HQ2 := Lib.hid (show decide (P = e0) = false from decide_eq_false hp)
      clear hp
      by_cases hz : P.size ≤ 12
      · have i2 : (P.size : Int) ≤ 12 := by omega
        have HD := Lib.hid (decide_eq_true hz)
        clear hz
        rcases V with _ | _
        · skip
          go_wp2_with (first
            | (refine wpList_load_nd rfl (some 25) rfl (.tmp 24) rfl w.heap.size rfl 120 CS M4.out NC.out ?_)
            | (refine wpList_load_nd rfl (some 26) rfl (.tmp 3) rfl (w.heap.size + 1) rfl 51 E1 K4.out NE1.out ?_)
            | (refine wpList_eql_nd rfl (some 27) rfl (.tmp 25) (.tmp 26) rfl CS E1 rfl rfl _ (HE.out _) ?_)
            | (go_at_call 131; refine (HV.out _ (of_decide_eq_true HD.out)).mono ?_; rintro e w' ⟨rfl, rfl⟩))
          go_ret
          exact ⟨by first | rfl | (rw [HQ.out, HD.out, HK0.out, HK3.out]; rfl) | (rw [HQ.out, HD.out, HK0.out]; rfl) | (rw [HQ.out, HD.out]; rfl) | (rw [HQ2.out, HD.out]; rfl), B4.out.1⟩
        · rcases S with _ | _
          · skip
            go_wp2_with (first
              | (refine wpList_load_nd rfl (some 25) rfl (.tmp 24) rfl w.heap.size rfl 120 CS M4.out NC.out ?_)
              | (refine wpList_load_nd rfl (some 26) rfl (.tmp 3) rfl (w.heap.size + 1) rfl 51 E1 K4.out NE1.out ?_)
              | (refine wpList_eql_nd rfl (some 27) rfl (.tmp 25) (.tmp 26) rfl CS E1 rfl rfl _ (HE.out _) ?_)
              | (go_at_call 131; refine (HV.out _ (of_decide_eq_true HD.out)).mono ?_; rintro e w' ⟨rfl, rfl⟩))
            go_ret
            exact ⟨by first | rfl | (rw [HQ.out, HD.out, HK0.out, HK3.out]; rfl) | (rw [HQ.out, HD.out, HK0.out]; rfl) | (rw [HQ.out, HD.out]; rfl) | (rw [HQ2.out, HD.out]; rfl), B4.out.1⟩
          · by_cases hk : K = 0
            · have hb : (K == 0) = true := by simpa using hk
              have HK0 := Lib.hid (decide_eq_true hk)
              clear hk
              go_wp2_with (first
                | (refine wpList_load_nd rfl (some 25) rfl (.tmp 24) rfl w.heap.size rfl 120 CS M4.out NC.out ?_)
                | (refine wpList_load_nd rfl (some 26) rfl (.tmp 3) rfl (w.heap.size + 1) rfl 51 E1 K4.out NE1.out ?_)
                | (refine wpList_eql_nd rfl (some 27) rfl (.tmp 25) (.tmp 26) rfl CS E1 rfl rfl _ (HE.out _) ?_)
                | (go_at_call 131; refine (HV.out _ (of_decide_eq_true HD.out)).mono ?_; rintro e w' ⟨rfl, rfl⟩))
              go_ret
              exact ⟨by first | rfl | (rw [HQ.out, HD.out, HK0.out, HK3.out]; rfl) | (rw [HQ.out, HD.out, HK0.out]; rfl) | (rw [HQ.out, HD.out]; rfl) | (rw [HQ2.out, HD.out]; rfl), B4.out.1⟩
            · have hb : (K == 0) = false := by simpa using hk
              have HK0 := Lib.hid (decide_eq_false hk)
              clear hk
              by_cases hk : K = 3
              · have hb3 : (K == 3) = true := by simpa using hk
                have HK3 := Lib.hid (decide_eq_true hk)
                clear hk
                go_wp2_with (first
                  | (refine wpList_load_nd rfl (some 25) rfl (.tmp 24) rfl w.heap.size rfl 120 CS M4.out NC.out ?_)
                  | (refine wpList_load_nd rfl (some 26) rfl (.tmp 3) rfl (w.heap.size + 1) rfl 51 E1 K4.out NE1.out ?_)
                  | (refine wpList_eql_nd rfl (some 27) rfl (.tmp 25) (.tmp 26) rfl CS E1 rfl rfl _ (HE.out _) ?_)
                  | (go_at_call 131; refine (HV.out _ (of_decide_eq_true HD.out)).mono ?_; rintro e w' ⟨rfl, rfl⟩))
                go_ret
                exact ⟨by first | rfl | (rw [HQ.out, HD.out, HK0.out, HK3.out]; rfl) | (rw [HQ.out, HD.out, HK0.out]; rfl) | (rw [HQ.out, HD.out]; rfl) | (rw [HQ2.out, HD.out]; rfl), B4.out.1⟩
              · have hb3 : (K == 3) = false := by simpa using hk
                have HK3 := Lib.hid (decide_eq_false hk)
                clear hk
                go_wp2_with (first
                  | (refine wpList_load_nd rfl (some 25) rfl (.tmp 24) rfl w.heap.size rfl 120 CS M4.out NC.out ?_)
                  | (refine wpList_load_nd rfl (some 26) rfl (.tmp 3) rfl (w.heap.size + 1) rfl 51 E1 K4.out NE1.out ?_)
                  | (refine wpList_eql_nd rfl (some 27) rfl (.tmp 25) (.tmp 26) rfl CS E1 rfl rfl _ (HE.out _) ?_)
                  | (go_at_call 131; refine (HV.out _ (of_decide_eq_true HD.out)).mono ?_; rintro e w' ⟨rfl, rfl⟩))
                go_ret
                exact ⟨by first | rfl | (rw [HQ.out, HD.out, HK0.out, HK3.out]; rfl) | (rw [HQ.out, HD.out, HK0.out]; rfl) | (rw [HQ.out, HD.out]; rfl) | (rw [HQ2.out, HD.out]; rfl), B4.out.1⟩
      · have i2 : ¬ (P.size : Int) ≤ 12 := by omega
        have HD := Lib.hid (decide_eq_false hz)
        clear hz
        go_wp2_with (first
          | (refine wpList_load_nd rfl (some 25) rfl (.tmp 24) rfl w.heap.size rfl 120 CS M4.out NC.out ?_)
          | (refine wpList_load_nd rfl (some 26) rfl (.tmp 3) rfl (w.heap.size + 1) rfl 51 E1 K4.out NE1.out ?_)
          | (refine wpList_eql_nd rfl (some 27) rfl (.tmp 25) (.tmp 26) rfl CS E1 rfl rfl _ (HE.out _) ?_)
          | (go_at_call 131; refine (HV.out _ (of_decide_eq_true HD.out)).mono ?_; rintro e w' ⟨rfl, rfl⟩))
        go_ret
        exact ⟨by first | rfl | (rw [HQ.out, HD.out, HK0.out, HK3.out]; rfl) | (rw [HQ.out, HD.out, HK0.out]; rfl) | (rw [HQ.out, HD.out]; rfl) | (rw [HQ2.out, HD.out]; rfl), B4.out.1⟩
end Go.Proofs.YtfeonjiiijdibaaGreatDoor
