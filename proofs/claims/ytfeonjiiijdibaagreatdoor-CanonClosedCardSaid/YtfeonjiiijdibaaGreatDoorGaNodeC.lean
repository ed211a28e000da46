/-
  Merged: NodeRefs, NodeMayBr, NodeValid, NodePutA, NodeGet, NodeHashes.
-/
import Derived.Test.YtfeonjiiijdibaaGreatDoorGaNodeB
namespace Go.Proofs.Nod
/-- The refs that are not empty, among the first k. -/
def used (n : Nd) (k : Nat) : List ByteArray := ((List.range k).map (rf n)).filter (fun r => decide (r ≠ e0))
theorem used_all (n : Nd) : used n 16 = (rfs n).filter (fun r => decide (r ≠ e0)) := rfl
theorem used_zero (n : Nd) : used n 0 = [] := rfl
theorem used_skip (n : Nd) (k : Nat) (h : rf n k = e0) : used n (k + 1) = used n k := by
  unfold used
  rw [List.range_succ, List.map_append, List.filter_append]
  simp [h]
theorem used_take (n : Nd) (k : Nat) (h : ¬ rf n k = e0) : used n (k + 1) = used n k ++ [rf n k] := by
  unfold used
  rw [List.range_succ, List.map_append, List.filter_append]
  simp [h]
theorem used_le (n : Nd) (k : Nat) : (used n k).length ≤ k := by
  have := List.length_filter_le (fun r => decide (r ≠ e0)) ((List.range k).map (rf n))
  simpa [used] using this
theorem used_prefix (n : Nd) (k : Nat) (h : k ≤ 16) : used n k <+: used n 16 := by
  obtain ⟨m, hm⟩ : ∃ m, 16 = k + m := ⟨16 - k, by omega⟩
  rw [hm]
  unfold used
  rw [List.range_add, List.map_append, List.filter_append]
  exact List.prefix_append _ _
theorem rf_mem (n : Nd) (k : Nat) (h : k < 16) : rf n k ∈ rfs n := List.mem_map.2 ⟨k, by simpa using h, rfl⟩
/-- A ref of a node. -/
abbrev RefOf (n : Nd) := { r : ByteArray // r ∈ rfs n }
def bareR {n : Nd} (l : List (RefOf n)) : List ByteArray := l.map (·.1)
theorem bareR_snoc {n : Nd} (l : List (RefOf n)) (x : RefOf n) : bareR (l ++ [x]) = bareR l ++ [x.1] := by simp [bareR]
end Go.Proofs.Nod
namespace Go.Proofs.YtfeonjiiijdibaaGreatDoor
open Go.RowKit Go.Shelf Go.Proofs.Nod
attribute [local go_sem] Oper.semAt_some
set_option linter.unusedVariables false
set_option linter.unusedSimpArgs false
section
variable {F : Fence} {n : Nat} {P : Program} {ops : Array Oper} {rest : List Oper} {o : Oper} {a : Act} {w : World} {Q : Exit → Act → World → Prop}
theorem wpListIn_runTo (hg : o.guard = none) (dst : Option Tmp) (hdst : o.dst = dst) (hnd : ∀ c, o.op ≠ .defer c) (hab : o.about P w a.eval = none) (v : Value) (w' : World)
    (hrun : (execOp a.eval o).run P w = .ok (.value v) w') (h : wpListIn F n P ops Q rest (a.put dst v) w') : wpListIn F n P ops Q (o :: rest) a w := by
  subst hdst
  refine wpListIn_plain hg fun K hK => ?_
  unfold Oper.wpIn
  rw [Oper.semAt_eq _ _ _ hnd, hrun]
  exact ⟨fun f hf => (by rw [hab] at hf; cases hf), hK _ _ h⟩
theorem wpListIn_skipTo (hg : o.guard = none) (hdst : o.dst = none) (hnd : ∀ c, o.op ≠ .defer c) (hab : o.about P w a.eval = none) (w' : World)
    (hrun : (execOp a.eval o).run P w = .ok .skip w') (h : wpListIn F n P ops Q rest a w') : wpListIn F n P ops Q (o :: rest) a w := by
  refine wpListIn_plain hg fun K hK => ?_
  unfold Oper.wpIn
  rw [Oper.semAt_eq _ _ _ hnd, hrun]
  refine ⟨fun f hf => (by rw [hab] at hf; cases hf), hK _ _ ?_⟩
  rw [hdst]
  exact h
theorem wpListIn_load_mid (hgd : o.guard = none) (d' : Option Tmp) (hd' : o.dst = d') (ty : TypeId) (x : Operand) (ho : o.op = .load ty x) (b off : Nat) (hx : a.eval x = .pointer (some ⟨b, off, none⟩)) (cs : List Value) (d : TypeDesc) (hc : w.rangeAt b off cs)
    (hu : P.underlying ty = some d) (hd : d.isRow = true) (hi : (P.info? ty).map (·.size) = some cs.length)
    (h : wpListIn F n P ops Q rest (a.put d' (.agg cs.toArray)) w) : wpListIn F n P ops Q (o :: rest) a w := by
  refine wpListIn_runTo hgd d' hd' (fun c => by rw [ho]; exact fun e => by cases e) (by unfold Oper.about; rw [ho]) _ _ ?_ h
  unfold execOp
  simp only [ho, hx, Instr.loadAt, Instr.sureAddr, Sem.run_bind, Sem.run_pure, Result.andThen_ok, run_loadVar_mid w b off ty cs d hc hu hd hi]
theorem wpListIn_load_nd (hgd : o.guard = none) (d : Option Tmp) (hd : o.dst = d) (x : Operand) (ho : o.op = .load 51 x) (g : Nat) (hx : a.eval x = .pointer (some ⟨g, 0, none⟩)) (t : TypeId) (cs : Array Value) (hg : Blk w g t cs) (hc : Ndc cs)
    (h : wpListIn F n Tryz.prog ops Q rest (a.put d (.agg cs)) w) : wpListIn F n Tryz.prog ops Q (o :: rest) a w :=
  wpListIn_runTo hgd d hd (fun c => by rw [ho]; exact fun e => by cases e) (by unfold Oper.about; rw [ho]) _ _ (Segs.run_row 51 x ho g hx t cs _ hg Tryz.underlying51 rfl (info19 hc.size)) h
theorem wpListIn_store_nd (hgd : o.guard = none) (x y : Operand) (ho : o.op = .store 51 x y) (hd : o.dst = none) (g : Nat) (cs : Array Value) (hx : a.eval x = .pointer (some ⟨g, 0, none⟩)) (hy : a.eval y = .agg cs)
    (t : TypeId) (old : Array Value) (hg : Blk w g t old) (hc : Ndc cs) (hold : Ndc old) (h : wpListIn F n Tryz.prog ops Q rest a (w.setRow g cs)) : wpListIn F n Tryz.prog ops Q (o :: rest) a w := by
  refine wpListIn_skipTo hgd hd (fun c => by rw [ho]; exact fun e => by cases e) (by unfold Oper.about; rw [ho]) _ ?_ h
  unfold execOp
  simp only [ho, hx, hy, Instr.storeAt, Instr.sureAddr, Sem.run_bind, Sem.run_pure, Result.andThen_ok, run_storeVar_row w g t 51 old cs hg (info19 hc.size) (hold.size.trans hc.size.symm) hc.one]
theorem wpListIn_alloc_nd (hgd : o.guard = none) (d : Option Tmp) (hd : o.dst = d) (ho : o.op = .alloc 51) (cs : Array Value) (hz : cs = ndC zeroN) (N : Nat) (hN : w.heap.size = N)
    (h : wpListIn F n Tryz.prog ops Q rest (a.put d (.pointer (some ⟨N, 0, none⟩))) (w.alloc (.cells cs 51))) : wpListIn F n Tryz.prog ops Q (o :: rest) a w := by
  subst hN
  refine wpListIn_runTo hgd d hd (fun c => by rw [ho]; exact fun e => by cases e) (by unfold Oper.about; rw [ho]) _ _ ?_ h
  rw [hz, ndC_zero]
  unfold execOp
  rw [ho]
  have := al_nd w a.eval d 51 "" none
  unfold execOp at this
  exact this
end
set_option maxRecDepth 100000 in
set_option maxHeartbeats 1000000 in
/-- What refs's function does, for every round that keeps its word. -/
theorem refs1_in (n l Bn : Nat) (nd : Nd) (hn : 1 ≤ n) (Kp : World → World → Prop) (J Jx : List (RefOf nd) → World → Prop) (W : World)
    (hJ : AbidesFrom W.heap.size J)
    (hY : ∀ pre x W1, J pre W1 → pre.length < 16 → YieldAt Fence.wide (n - 1) Tryz.prog l #[.string x.1] W1 fun e W' =>
      (e = .returned (.bool true) ∧ J (pre ++ [x]) W' ∧ Kp W1 W') ∨ (e = .returned (.bool false) ∧ Jx (pre ++ [x]) W'))
    (T : TypeId) (hBn : Blk W Bn T (ndC nd)) (h0 : J [] W) :
    CallsIn Fence.wide n Tryz.prog 99 #[.func (.yield l) #[] #[], .pointer (some ⟨Bn, 0, none⟩)] W fun e W' => (∃ v, e = .returned v) ∧
      ((∃ ys, bareR ys = used nd 16 ∧ J ys W') ∨ (∃ pre, bareR pre <+: used nd 16 ∧ Jx pre W')) := by
  refine callsIn_of_wp Tryz.func99 rfl trivial ?_ rfl
  simp only [Tryz.ntmps99, List.size_toArray, List.length_cons, List.length_nil, Nat.reduceAdd, Nat.reduceSub, Array.replicate_succ, Array.replicate_zero, List.push_toArray, List.append_toArray, List.nil_append, List.cons_append]
  have hr := rf_range hBn
  obtain ⟨RL, hRL⟩ : ∃ r, r = rfL nd := ⟨_, rfl⟩
  have hix : ∀ k : Nat, k < 16 → ∀ W : World, (Instr.index 49 (.agg RL.toArray) (.int .i64 (k : Int))).run Tryz.prog W = .ok (.string (rf nd k)) W := fun k h W => by
    rw [hRL]; exact index_strs _ k _ (rfL_size nd) (rfL_get nd k h) h W
  have hls : RL.length = 16 := by rw [hRL]; exact rfL_size nd
  rw [← hRL] at hr
  have HR := Lib.hid hr
  have HIX := Lib.hid hix
  have HLS := Lib.hid hls
  clear hr hix hls hRL hBn
  gi_wp2_with (refine wpListIn_load_mid rfl (some 6) rfl 49 (.tmp 5) rfl Bn 3 rfl RL _ HR.out Tryz.underlying49 rfl (by rw [HLS.out]; kernel_rfl) ?_)
  clear HR
  gi_loopw [7] (fun p wr => ∃ (k : Nat) (pre : List (RefOf nd)), p = .int .i64 (k : Int) ∧ k ≤ 16 ∧ Hid (bareR pre = used nd k) ∧ Hid (J pre wr)) (fun p _ => 16 - (intOf p).toNat)
  case atStart => exact ⟨0, [], rfl, Nat.zero_le _, Lib.hid rfl, Lib.hid h0⟩
  case round =>
    obtain ⟨k, pre, rfl, hk, hp, hJs⟩ := hrel
    by_cases hlt : k < 16
    · have ix := HIX.out k hlt
      have HM := Lib.hid (rf_mem nd k hlt)
      obtain ⟨X, hX⟩ : ∃ X, X = rf nd k := ⟨_, rfl⟩
      rw [← hX] at ix HM
      have HX := Lib.hid hX
      clear hX
      have i1 : (k : Int) < 16 := by omega
      have i3 : (0 : Int) ≤ (k : Int) := by omega
      have wk : IntKind.i64.wrap ((k : Int) + 1) = (k : Int) + 1 := IntWalk.i64_in _ (by omega)
      have HK := Lib.hid hk
      have HLT := Lib.hid hlt
      clear hk hlt
      by_cases hx : X = ⟨#[]⟩
      · have HU := Lib.hid (used_skip nd k (HX.out.symm.trans hx))
        subst hx
        gi_wp2_with fail
        refine ⟨fun f h => (by cases h), ?_⟩
        gi_wp2_with fail
        go_roundw
        case rel => exact ⟨k + 1, pre, by go_num, by have := HLT.out; omega, Lib.hid (by rw [hp.out, HU.out]), hJs⟩
        case measure => simp [intOf]; have := HLT.out; omega
      · have HU := Lib.hid (used_take nd k (fun h => hx (HX.out.trans h)))
        have e1 := not_empty hx
        have hlen : pre.length < 16 := by
          have h1 := used_le nd k
          rw [← hp.out] at h1
          simp [bareR] at h1
          have := HLT.out
          omega
        obtain ⟨xr, hxr⟩ : ∃ x : RefOf nd, x.1 = X := ⟨⟨X, HM.out⟩, rfl⟩
        obtain ⟨fn, tmps, assign, body, hy, hRR⟩ := hY pre xr wr hJs.out hlen
        rw [hxr] at hy
        have HXR := Lib.hid hxr
        have hy' : (Instr.yield l #[.string X]).run Tryz.prog wr = .ok (.round l fn tmps assign body) wr := hy
        have HRR := Lib.hid hRR
        clear hRR hy hx hlen hxr
        gi_wp2_with fail
        refine HRR.out.mono ?_
        rintro e1 W3 (⟨rfl, hJ4, hk4⟩ | ⟨rfl, hJx4⟩)
        · have HJ4 := Lib.hid hJ4
          clear hJ4 hk4
          gi_wp2_with fail
          go_roundw
          case rel => exact ⟨k + 1, pre ++ [xr], by go_num, by have := HLT.out; omega, Lib.hid (by rw [bareR_snoc, hp.out, HU.out, HXR.out, HX.out]), HJ4⟩
          case measure => simp [intOf]; have := HLT.out; omega
        · have HJ4 := Lib.hid hJx4
          clear hJx4
          gi_wp2_with fail
          refine bodyPost_ret (results_none rfl _ _ _) rfl ?_
          refine ⟨⟨_, rfl⟩, .inr ⟨pre ++ [xr], ?_, HJ4.out⟩⟩
          rw [bareR_snoc, hp.out]
          rw [HXR.out, HX.out, ← HU.out]
          exact used_prefix nd (k + 1) (by have := HLT.out; omega)
    · obtain rfl : k = 16 := by omega
      gi_wp2_with fail
      go_end0
      exact ⟨⟨_, rfl⟩, .inl ⟨pre, hp.out, hJs.out⟩⟩
/-- What refs hands back, for a loop over it. -/
theorem refs_stops (n b N : Nat) (nd : Nd) (hn : 1 ≤ n) (w : World) (T : TypeId) (hc : Blk w b T (ndC nd)) :
    SeqStopsK Fence.wide n Tryz.prog 99 #[.pointer (some ⟨b, 0, none⟩)] (fun x : RefOf nd => #[.string x.1]) (Kb N b) (fun ys => bareR ys = used nd 16) (fun pre => bareR pre <+: used nd 16) 16 w :=
  fun l J Jx W hW hJ _ hY h0 => refs1_in n l b nd hn (Kb N b) J Jx W hJ hY T (hc.below hW) h0
/-- node.refs. -/
theorem refs_any (nd : Nd) (w : World) :
    Calls Tryz.prog 66 #[.agg (ndC nd)] w fun e w' => e = .returned (.func (.func 99) #[] #[.pointer (some ⟨w.heap.size, 0, none⟩)]) ∧ w' = w.alloc (.cells (ndC nd) 51) := by
  obtain ⟨CS, hCS⟩ : ∃ cs, cs = ndC nd := ⟨_, rfl⟩
  rw [← hCS]
  clear hCS
  go_enter Tryz.func66, Tryz.ntmps66
  go_wp2_with fail
  go_ret
  exact ⟨rfl, rfl⟩
end Go.Proofs.YtfeonjiiijdibaaGreatDoor
namespace Go.Proofs.YtfeonjiiijdibaaGreatDoor
open Go.RowKit Go.Shelf Go.Proofs.Nod
attribute [local go_sem] Oper.semAt_some
set_option linter.unusedVariables false
set_option linter.unusedSimpArgs false
def branchB (n : Nd) : Bool :=
  decide (n.path = e0) && (decide (n.value.size ≤ 80) && ((used n 16).all (fun r => (rfrB r).isSome) && decide (2 ≤ min n.value.size 1 + (used n 16).length)))
theorem isAggBoolN (w : World) : (isAgg 4).run Tryz.prog w = .ok false w := by kernel_rfl
theorem results_cellB {fn : Func} (h : fn.results = #[.cell 2 4]) (tmps : Array Value) (w : World) (a : Nat) (h2 : tmps[2]?.getD undef = .pointer (some ⟨a, 0, none⟩)) {x : Value} (hx : w.cell? ⟨a, 0, none⟩ = some x) :
    (results fn tmps).run Tryz.prog w = .ok x w := by
  simp [results, h, h2, loadVar, isAggBoolN, asAddr, hx, Result.andThen]
theorem ownFrom_size {β : Type} (B m : Nat) : OwnFrom B (fun (_ : β) W => m ≤ W.heap.size) := fun _ _ _ _ hs hg _ => Nat.le_trans hs hg.size
set_option maxRecDepth 100000 in
set_option maxHeartbeats 2000000 in
theorem mbranch_any (nd : Nd) (w : World) (hsz : ∀ r ∈ rfs nd, r.size < 32 → GetC r) (hl : Laid2 w) :
    Calls Tryz.prog 98 #[.agg (ndC nd)] w fun e w' => e = .returned (.bool (branchB nd)) ∧ Below w.heap.size w w' := by
  have k0 := Blk.new w 120 (ndC nd)
  have b0 : Bl w.heap.size w ((w.alloc (.cells (ndC nd) 120)).alloc (.cells #[.bool false] 4)) := ((Bl.start w).alloc _).alloc _
  have c1 : ((w.alloc (.cells (ndC nd) 120)).alloc (.cells #[.bool false] 4)).cell? ⟨w.heap.size, 1, none⟩ = some (.string nd.path) := by rw [(k0.alloc _).cell]; rfl
  have c2 : ((w.alloc (.cells (ndC nd) 120)).alloc (.cells #[.bool false] 4)).cell? ⟨w.heap.size, 2, none⟩ = some (.string nd.value) := by rw [(k0.alloc _).cell]; rfl
  have hra := fun W => refs_any nd W
  obtain ⟨CS, hCS⟩ : ∃ cs, cs = ndC nd := ⟨_, rfl⟩
  have hcs : Ndc CS := by rw [hCS]; exact .of _
  rw [← hCS] at k0 b0 c1 c2 hra ⊢
  by_cases hp : nd.path = e0
  · by_cases hv : nd.value.size ≤ 80
    · rw [hp] at c1
      obtain ⟨V, hV⟩ : ∃ v, v = nd.value := ⟨_, rfl⟩
      rw [← hV] at hv c2
      have i1 : (V.size : Int) ≤ 80 := by omega
      have K0 := Lib.hid k0
      have B0 := Lib.hid b0
      have HRA := Lib.hid hra
      have NC := Lib.hid hcs
      have HCS := Lib.hid hCS
      have HSZ := Lib.hid hsz
      have HL := Lib.hid hl
      have HP := Lib.hid hp
      have HV := Lib.hid hV
      clear k0 b0 hra hcs hCS hp hv hV hl hsz
      unfold e0 at c1
      have k1 := Lib.hid ((K0.out.alloc (.cells #[.bool false] 4)).alloc (.cells #[.int .i64 (min (V.size : Int) 1)] 3))
      refine (callsIn_wide (n := 5)).1 ?_
      refine callsIn_of_wp_marks Tryz.func98 rfl trivial ?_ rfl
      simp only [Tryz.ntmps98, List.size_toArray, List.length_cons, List.length_nil, Nat.reduceAdd, Nat.reduceSub, Array.replicate_succ, Array.replicate_zero, List.push_toArray, List.append_toArray, List.nil_append, List.cons_append]
      gi_wp2_with (first
        | (refine wpListIn_load_nd rfl (some 24) rfl (.tmp 23) rfl w.heap.size rfl 120 CS k1.out NC.out ?_)
        | (refine ⟨trivial, ?_⟩; refine (callsIn_wide.2 (HRA.out _)).mono ?_; rintro e w' ⟨rfl, rfl⟩))
      obtain ⟨U0, hU0⟩ : ∃ u : Nat, u = min V.size 1 := ⟨_, rfl⟩
      have hmin : min (V.size : Int) 1 = (U0 : Int) := by omega
      rw [hmin]
      rw [hmin] at k1
      have hU1 : U0 ≤ 1 := by omega
      have bR0 := ((Boxed.new (w.alloc (.cells CS 120)) 4 (.bool false)).alloc (.cells #[.int .i64 (U0 : Int)] 3)).alloc (.cells CS 51)
      have bC0 := (Boxed.new ((w.alloc (.cells CS 120)).alloc (.cells #[.bool false] 4)) 3 (.int .i64 (U0 : Int))).alloc (.cells CS 51)
      have bN0 := Blk.new (((w.alloc (.cells CS 120)).alloc (.cells #[.bool false] 4)).alloc (.cells #[.int .i64 (U0 : Int)] 3)) 51 CS
      have hB0 := (B0.out.alloc (.cells #[.int .i64 (U0 : Int)] 3)).alloc (.cells CS 51)
      simp only [World.size_alloc] at bR0 bC0 bN0
      have hsz : ((((w.alloc (.cells CS 120)).alloc (.cells #[.bool false] 4)).alloc (.cells #[.int .i64 (U0 : Int)] 3)).alloc (.cells CS 51)).heap.size = w.heap.size + 4 := by simp
      generalize (((w.alloc (.cells CS 120)).alloc (.cells #[.bool false] 4)).alloc (.cells #[.int .i64 (U0 : Int)] 3)).alloc (.cells CS 51) = W0 at bR0 bC0 bN0 hB0 hsz ⊢
      obtain ⟨N, hN⟩ : ∃ N, N = w.heap.size := ⟨_, rfl⟩
      rw [← hN] at bR0 bC0 bN0 hB0 hsz ⊢
      have hNw : N ≤ w.heap.size := by omega
      have HN := Lib.hid hN
      have HU0 := Lib.hid hU0
      clear hN k1 hmin c2 c1 hU0
      rw [HCS.out] at bN0
      refine wpIn_rangeFunc_ownF rfl (by decide) (gf := 99) (lb := #[.pointer (some ⟨N + 1 + 1 + 1, 0, none⟩)]) rfl trivial (enters_of Tryz.func99 (by kernel_rfl) rfl)
        (refs_stops 4 (N + 1 + 1 + 1) N nd (by decide) W0 51 bN0) kb_t (kb_b (by omega) (by omega)) (Below.refl _ _) (fun _ => rfl)
        (fun pre W => (∀ r ∈ bareR pre, (rfrB r).isSome = true) ∧ Boxed W (N + 1 + 1) 3 (.int .i64 ((U0 + pre.length : Nat) : Int)) ∧ Boxed W (N + 1) 4 (.bool false) ∧ Below N w W ∧ N + 4 ≤ W.heap.size)
        (fun c pre W => c = .ret ∧ (∃ r ∈ bareR pre, (rfrB r).isSome = false) ∧ Boxed W (N + 1) 4 (.bool false) ∧ Below N w W)
        (OwnFrom.and (ownFrom_pure _ _) (OwnFrom.and (Own.from (boxed_own _ _ _) _) (OwnFrom.and (Own.from (boxed_own _ _ _) _) (OwnFrom.and (ownFrom_below hNw (by omega)) (ownFrom_size _ _)))))
        (fun c => OwnFrom.and (ownFrom_pure _ _) (OwnFrom.and (ownFrom_pure _ _) (OwnFrom.and (Own.from (boxed_own _ _ _) _) (ownFrom_below hNw (by omega)))))
        ⟨fun r h => (by cases h), bC0, bR0, hB0.1, by omega⟩
        (fun x => { tmps := #[.agg CS, .pointer (some ⟨N, 0, none⟩), .pointer (some ⟨N + 1, 0, none⟩), .pointer (some ⟨N + 1 + 1, 0, none⟩), .string x.1, undef, undef, .pointer (some ⟨N, 0, none⟩), .pointer (some ⟨N, 1, none⟩), .string ⟨#[]⟩, .bool false, .bool false, .pointer (some ⟨N, 0, none⟩), .pointer (some ⟨N, 2, none⟩), .string V, .int .i64 (V.size : Int), .bool (decide (80 < (V.size : Int))), .bool (decide (80 < (V.size : Int))), .pointer (some ⟨N, 0, none⟩), .pointer (some ⟨N, 2, none⟩), .string V, .int .i64 (V.size : Int), .int .i64 (U0 : Int), .pointer (some ⟨N, 0, none⟩), .agg CS, .func (.func 99) #[] #[.pointer (some ⟨N + 1 + 1 + 1, 0, none⟩)], .string x.1, undef, undef, undef, undef, undef, undef, undef, undef, undef, undef, undef], defers := [] }) ?assign ?body ?done ?stop
      case assign =>
        intro l x W K hK
        gi_wp2
        exact hK
      case body =>
        rintro l pre x W ⟨hF, cC, cR, hB, hN4⟩ hlen
        have hx := HSZ.out x.1 x.2
        have hrf := refers_any x.1 W (HL.out.on (by rw [← HN.out]; exact hB) (Nat.le_refl _)) hx
        unfold Rfr at hrf
        obtain ⟨C, hC⟩ : ∃ C, C = U0 + pre.length := ⟨_, rfl⟩
        rw [← hC] at cC
        have hC2 : C ≤ 20 := by omega
        obtain ⟨K, hK⟩ : ∃ k, k = (rfrB x.1).getD 0 := ⟨_, rfl⟩
        obtain ⟨S, hS⟩ : ∃ k, k = (rfrB x.1).isSome := ⟨_, rfl⟩
        rw [← hS, ← hK] at hrf
        have RF := Lib.hid hrf
        have HC := Lib.hid hC
        have HS := Lib.hid hS
        have CC := Lib.hid cC
        have CR := Lib.hid cR
        have HBW := Lib.hid hB
        have c3 := cC.cell
        have e3 := cC.frozen
        have d1 := cR.cell
        have f1 := cR.frozen
        have hlt3 := cC.lt
        have hNW : N + 1 + 1 < W.heap.size := hlt3
        clear hrf hC hS hK cC cR hB hx hlen
        rcases S with _ | _
        · gi_wp2_with (refine ⟨trivial, ?_⟩; refine (CallsIn.inRound l (callsIn_wide.2 RF.out)).mono ?_; rintro e w4 ⟨rfl, hb4⟩; have hg := grown_of_below hb4; have d1' := kept_cell hg d1; have f1' := kept_frozen hg d1 f1)
          have m1 := CR.out.kept hg (by simp)
          refine ⟨(KeepsOthers.of_grownBy hg (fun j o e => by cases e)).trans (KeepsOthers.setCell _ _ _), rfl, ⟨x.1, by rw [bareR_snoc]; simp, HS.out.symm⟩, m1.set _, (Below.grownNone HBW.out (by have := CR.out.lt; omega) hg).setCell (p := ⟨N + 1, 0, none⟩) (by simp) _⟩
        · have wk : IntKind.i64.wrap ((C : Int) + 1) = (C : Int) + 1 := IntWalk.i64_in _ (by omega)
          gi_wp2_with (refine ⟨trivial, ?_⟩; refine (CallsIn.inRound l (callsIn_wide.2 RF.out)).mono ?_; rintro e w4 ⟨rfl, hb4⟩; have hg := grown_of_below hb4; have c3' := kept_cell hg c3; have e3' := kept_frozen hg c3 e3)
          have m1 := CR.out.kept hg (by simp)
          have m3 := CC.out.kept hg (by simp)
          have hBn : Below N W (w4.setCell ⟨N + 1 + 1, 0, none⟩ (.int .i64 ((C : Int) + 1))) := (hb4.mono (by omega)).setCell (p := ⟨N + 1 + 1, 0, none⟩) (by simp; omega) _
          refine ⟨(KeepsOthers.of_grownBy hg (fun j o e => by cases e)).trans (KeepsOthers.setCell _ _ _), ⟨hBn, ?_⟩, ?_, ?_, m1.other (by omega) _, HBW.out.trans hBn, Nat.le_trans hN4 hBn.size⟩
          · rw [Below.heap_setCell _ _ _ _ (by simp)]
            exact hb4.block _ (by omega)
          · intro r hr
            rw [bareR_snoc] at hr
            rcases List.mem_append.1 hr with h | h
            · exact hF r h
            · rw [List.mem_singleton.1 h]; exact HS.out.symm
          · have := m3.set (.int .i64 ((C : Int) + 1))
            have e : ((U0 + (pre ++ [x]).length : Nat) : Int) = (C : Int) + 1 := by rw [List.length_append, HC.out]; simp; omega
            rw [e]
            exact this
      case done =>
        rintro D ys W hD hys ⟨hF, cC, cR, hB, hN4⟩ hK
        obtain ⟨C, hC⟩ : ∃ C, C = U0 + ys.length := ⟨_, rfl⟩
        rw [← hC] at cC
        have hlen : ys.length = (used nd 16).length := by rw [← hys]; simp [bareR]
        have hall : (used nd 16).all (fun r => (rfrB r).isSome) = true := by
          rw [← hys]
          exact List.all_eq_true.2 hF
        have hbr : branchB nd = decide (2 ≤ C) := by
          unfold branchB
          rw [hall, HP.out, ← HV.out, ← HU0.out, hC, hlen, decide_eq_true (show V.size ≤ 80 by omega)]
          simp
        have HBR := Lib.hid hbr
        have hC2 : C ≤ 40 := by have := used_le nd 16; omega
        have c3 := cC.cell
        have d1 := cR.cell
        have f1 := cR.frozen
        have hND : N + 4 ≤ D := by omega
        obtain ⟨B, hBe⟩ : ∃ b, b = decide (2 ≤ C) := ⟨_, rfl⟩
        rw [← hBe] at HBR
        have hdec : decide ((2 : Int) ≤ (C : Int)) = B := by rw [hBe]; simp; omega
        clear hC hlen hall hbr hBe
        have q1 : Boxed (W.setCell ⟨N + 1, 0, none⟩ (.bool B)) (N + 1) 4 (.bool B) := cR.set _
        have qB : Below N w (W.setCell ⟨N + 1, 0, none⟩ (.bool B)) := hB.setCell (p := ⟨N + 1, 0, none⟩) (by simp) _
        have hK2 : (W.setCell ⟨N + 1, 0, none⟩ (.bool B)).heap[D]? = some (.deferred (some [])) := by
          rw [Deep.blk_setCell_other _ _ _ _ (by simp; omega)]
          exact hK
        rcases B with _ | _
        · have hd2 : ¬ (2 : Int) ≤ (C : Int) := by simpa using hdec
          clear hdec
          gi_wp2
          generalize W.setCell ⟨N + 1, 0, none⟩ (.bool false) = W2 at *
          have p1 := q1.kept (grownBy_putObj' W2 D (.deferred none)) (by simp; omega)
          refine ⟨by simp, .inl ⟨_, _, rfl, run_takeDeferred hK2, ?_⟩⟩
          exact ⟨.bool false, results_cellB rfl _ _ (N + 1) rfl p1.cell, by rw [HBR.out], by rw [← HN.out]; exact qB.trans (belowK_b (w := w) hNw W2 D _ _ (by have := HN.out; omega) hK2 rfl rfl)⟩
        · have hd2 : (2 : Int) ≤ (C : Int) := by simpa using hdec
          clear hdec
          gi_wp2
          generalize W.setCell ⟨N + 1, 0, none⟩ (.bool true) = W2 at *
          have p1 := q1.kept (grownBy_putObj' W2 D (.deferred none)) (by simp; omega)
          refine ⟨by simp, .inl ⟨_, _, rfl, run_takeDeferred hK2, ?_⟩⟩
          exact ⟨.bool true, results_cellB rfl _ _ (N + 1) rfl p1.cell, by rw [HBR.out], by rw [← HN.out]; exact qB.trans (belowK_b (w := w) hNw W2 D _ _ (by have := HN.out; omega) hK2 rfl rfl)⟩
      case stop =>
        rintro D c pre W hD hp ⟨rfl, hF, cR, hB⟩ hK
        gi_wp2
        have hND : N + 4 ≤ D := by omega
        have p1 := cR.kept (grownBy_putObj' W D (.deferred none)) (by simp; omega)
        refine ⟨by simp, .inl ⟨_, _, rfl, run_takeDeferred hK, ?_⟩⟩
        refine ⟨.bool false, results_cellB rfl _ _ (N + 1) rfl p1.cell, ?_, by rw [← HN.out]; exact hB.trans (belowK_b (w := w) hNw W D _ _ (by have := HN.out; omega) hK rfl rfl)⟩
        obtain ⟨r, hr, hr2⟩ := hF
        have : (used nd 16).all (fun r => (rfrB r).isSome) = false := by
          rw [List.all_eq_false]
          exact ⟨r, hp.subset hr, by simpa using hr2⟩
        have hb : branchB nd = false := by
          unfold branchB
          rw [this]
          simp
        rw [hb]
    · have hb : branchB nd = false := by unfold branchB; rw [decide_eq_false hv]; cases decide (nd.path = e0) <;> rfl
      rw [hp] at c1
      obtain ⟨V, hV⟩ : ∃ v, v = nd.value := ⟨_, rfl⟩
      rw [← hV] at hv c2
      rw [hb]
      have i1 : (80 : Int) < (V.size : Int) := by omega
      have B0 := Lib.hid b0
      clear hb k0 b0 hra hcs hCS hp hv hV hl hsz
      unfold e0 at c1
      go_enter Tryz.func98, Tryz.ntmps98
      go_wp2_with fail
      exact bodyPost_ret (results_cellB rfl _ _ (w.heap.size + 1) rfl (by simp)) rfl ⟨rfl, by first | exact B0.out.1 | exact (B0.out.setCell (p := ⟨w.heap.size + 1, 0, none⟩) (by simp) _).1 | (have := (Bl.start w).alloc (.cells CS 120); exact (this.alloc _).1)⟩
  · have hb : branchB nd = false := by unfold branchB; rw [decide_eq_false hp]; rfl
    obtain ⟨P, hP⟩ : ∃ v, v = nd.path := ⟨_, rfl⟩
    rw [← hP] at hp c1
    rw [hb]
    have e1 := not_empty hp
    have B0 := Lib.hid b0
    clear hb k0 b0 hra hcs hCS hp hP hl hsz c2
    go_enter Tryz.func98, Tryz.ntmps98
    go_wp2_with fail
    exact bodyPost_ret (results_cellB rfl _ _ (w.heap.size + 1) rfl (by simp)) rfl ⟨rfl, by first | exact B0.out.1 | exact (B0.out.setCell (p := ⟨w.heap.size + 1, 0, none⟩) (by simp) _).1 | (have := (Bl.start w).alloc (.cells CS 120); exact (this.alloc _).1)⟩
end Go.Proofs.YtfeonjiiijdibaaGreatDoor
namespace Go.Proofs.Segs
open Go Go.RowKit
variable {P : Program}
theorem run_built {o : Oper} {a : Act} {W : World} (t : TypeId) (parts : Array (Nat × Operand)) (ho : o.op = .build t parts) (cells : Array Value) (h : P.built t (parts.map fun (i, x) => (i, a.eval x)).toList = some cells) :
    (execOp a.eval o).run P W = .ok (.value (.agg cells)) W := by
  unfold execOp
  simp only [ho, Sem.run_bind, run_build W t _ cells h, Result.andThen_ok, Sem.run_pure]
end Go.Proofs.Segs
namespace Go.Proofs.YtfeonjiiijdibaaGreatDoor
open Go.RowKit Go.Proofs.Nod
set_option linter.unusedVariables false
set_option linter.unusedSimpArgs false
/-- Whether a node may be. -/
def validB (n : Nd) : Bool := validK gB n
theorem validB0 (n : Nd) (h : n.kind = 0) : validB n = decide (n = zeroN) := by unfold validB validK; rw [if_pos h]
theorem leaf_eq (n : Nd) (h : n.kind = 1) : decide (n = leafN n.path n.value) = decide (n.refs = List.replicate 16 e0) := by
  obtain ⟨a, b, c, d⟩ := n
  cases h
  rw [Bool.eq_iff_iff]
  simp [leafN]
theorem validB1 (n : Nd) (h : n.kind = 1) : validB n = (decide (n = leafN n.path n.value) && (decide (n.path.size ≤ 12) && (Nib.valid n.path.data.toList && (decide (n.value ≠ e0) && decide (n.value.size ≤ 80))))) := by
  rw [leaf_eq n h]
  unfold validB validK pathOk
  rw [if_neg (by omega), if_pos h]
  simp only [Bool.and_assoc]
theorem ext_eq (n : Nd) (h : n.kind = 2) (h16 : n.refs.length = 16) : decide (n = extN n.path (rf n 0)) = (decide (n.value = e0) && decide (n.refs.drop 1 = List.replicate 15 e0)) := by
  obtain ⟨a, b, c, d⟩ := n
  cases h
  rcases d with _ | ⟨x, r⟩
  · simp at h16
  · rw [Bool.eq_iff_iff]
    simp [extN, rf]
theorem rf_head (n : Nd) : n.refs.headD e0 = rf n 0 := by unfold rf; cases n.refs <;> rfl
theorem validB2 (n : Nd) (h : n.kind = 2) (h16 : n.refs.length = 16) : validB n = extB n := by
  unfold extB
  rw [ext_eq n h h16]
  unfold validB validK pathOk
  rw [if_neg (by omega), if_neg (by omega), if_pos h, rf_head]
  unfold rfrB
  generalize refersK gB (rf n 0) = R
  cases R <;> simp [Bool.and_assoc]
theorem all_used (l : List ByteArray) (p : ByteArray → Bool) : l.all (fun r => decide (r = e0) || p r) = (l.filter (fun r => decide (r ≠ e0))).all p := by
  induction l with
  | nil => rfl
  | cons x r ih =>
    by_cases h : x = e0
    · rw [List.all_cons, ih, List.filter_cons, if_neg (by simpa using h), decide_eq_true h]
      rfl
    · rw [List.all_cons, ih, List.filter_cons, if_pos (by simpa using h), List.all_cons, decide_eq_false h]
      rfl
theorem validB3 (n : Nd) (h : n.kind = 3) (h16 : n.refs.length = 16) : validB n = branchB n := by
  unfold branchB
  rw [used_all, rfs_eq n h16]
  unfold validB validK
  rw [if_neg (by omega), if_neg (by omega), if_neg (by omega), if_pos h]
  rw [all_used]
  simp only [Bool.and_assoc]
  rfl
theorem validB_no (n : Nd) (h : n.kind < 0 ∨ 4 ≤ n.kind) : validB n = false := by
  unfold validB validK
  rw [if_neg (by omega), if_neg (by omega), if_neg (by omega), if_neg (by omega)]
theorem isAggFn (W : World) : (isAgg 128).run Tryz.prog W = .ok false W := by kernel_rfl
theorem isAggKind (W : World) : (isAgg 48).run Tryz.prog W = .ok false W := by kernel_rfl
theorem built_shape (n : Nd) : Tryz.prog.built 120 [(0, .agg (ndC n))] = some (ndC n) := by kernel_rfl
theorem built_shape_of {cs : Array Value} {a : Act} {i : Operand} (n : Nd) (h : cs = ndC n) (hi : a.eval i = .agg cs) : Tryz.prog.built 120 ((#[(0, i)] : Array (Nat × Operand)).map fun (i, x) => (i, a.eval x)).toList = some cs := by
  simp only [List.map_toArray, List.map_cons, List.map_nil]
  rw [hi, h]
  exact built_shape n
set_option maxRecDepth 100000 in
set_option maxHeartbeats 1000000 in
theorem valid_0 (n : Nd) (w : World) (hk : n.kind = 0) (h16 : n.refs.length = 16) (hsz : ∀ r ∈ rfs n, r.size < 32 → GetC r) (hl : Laid2 w) :
    Calls Tryz.prog 65 #[.agg (ndC n)] w fun e w' => e = .returned (.bool (validB n)) ∧ Below w.heap.size w w' := by
  have hcall : ∀ W, Laid2 W → Calls Tryz.prog 95 #[.agg (ndC n)] W fun e w' => e = .returned (.bool (validB n)) ∧ Below W.heap.size W w' := fun W h => by
    rw [validB0 n hk]
    exact mnone_any n W h16
  have g0 : (ndC n)[0]? = some (.int .i64 0) := by show some (Value.int .i64 n.kind) = _; rw [hk]
  obtain ⟨CS, hCS⟩ : ∃ cs, cs = ndC n := ⟨_, rfl⟩
  have hcs : Ndc CS := by rw [hCS]; exact .of _
  rw [← hCS] at hcall g0 ⊢
  obtain ⟨B, hB⟩ : ∃ b, b = validB n := ⟨_, rfl⟩
  rw [← hB] at hcall ⊢
  have k0 := Blk.new w 51 CS
  have k1 := k0.alloc (.cells #[.nilFunc, .nilFunc, .nilFunc, .nilFunc] 129)
  have m1 := Blk.new (w.alloc (.cells CS 51)) 129 #[.nilFunc, .nilFunc, .nilFunc, .nilFunc]
  rw [World.size_alloc] at m1
  have b1 := ((Bl.start w).alloc (.cells CS 51)).alloc (.cells #[.nilFunc, .nilFunc, .nilFunc, .nilFunc] 129)
  have m2 := m1.row (cs := #[.func (.func 95) #[] #[], .func (.func 96) #[] #[], .func (.func 97) #[] #[], .func (.func 98) #[] #[]])
  have k2 := k1.rowOther (g' := w.heap.size + 1) (cs := #[.func (.func 95) #[] #[], .func (.func 96) #[] #[], .func (.func 97) #[] #[], .func (.func 98) #[] #[]]) (by omega)
  have b2 := Bl.setRow b1 (g := w.heap.size + 1) (by omega) #[.func (.func 95) #[] #[], .func (.func 96) #[] #[], .func (.func 97) #[] #[], .func (.func 98) #[] #[]]
  have HCS := Lib.hid hCS
  have NC := Lib.hid hcs
  have HC := Lib.hid hcall
  have G0 := Lib.hid g0
  have HL := Lib.hid hl
  have M1 := Lib.hid m1
  have K2 := Lib.hid k2
  have M2 := Lib.hid m2
  have B2 := Lib.hid b2
  clear hcall g0 hCS hcs hB k0 k1 m1 b1 k2 m2 b2 hl hk h16 hsz
  go_enter Tryz.func65, Tryz.ntmps65
  go_wp2_with (refine wpList_store_rowTo rfl 129 (.tmp 3) (.tmp 4) rfl rfl (w.heap.size + 1) #[.func (.func 95) #[] #[], .func (.func 96) #[] #[], .func (.func 97) #[] #[], .func (.func 98) #[] #[]] rfl rfl 129 #[.nilFunc, .nilFunc, .nilFunc, .nilFunc] M1.out (by kernel_rfl) rfl (by kernel_rfl) ?_)
  generalize ((w.alloc (.cells CS 51)).alloc (.cells #[.nilFunc, .nilFunc, .nilFunc, .nilFunc] 129)).setRow (w.heap.size + 1) #[.func (.func 95) #[] #[], .func (.func 96) #[] #[], .func (.func 97) #[] #[], .func (.func 98) #[] #[]] = W1 at *
  generalize hN : w.heap.size = N at *
  have HN := Lib.hid hN
  clear hN
  refine Segs.wp_region_segs Segs.Hist (List.replicate 18 false) Segs.Hist.refl Segs.Hist.trans (by kernel_rfl) (by kernel_rfl) (by kernel_rfl) ?_
  have K3 := Lib.hid (show Blk W1.drew N 51 CS from K2.out)
  have M3 := Lib.hid (show Blk W1.drew (N + 1) 129 _ from M2.out)
  have B3 := Lib.hid B2.out.drew
  have L3 := Lib.hid (HL.out.on (by rw [HN.out]; exact B3.out.1) (Nat.le_refl _))
  generalize W1.drew = W2 at *
  refine Segs.wpM_val (some 5) (.pointer (some ⟨N, 0, none⟩)) rfl (by kernel_rfl) (fun W h => by kernel_rfl) ?_
  simp only [Act.put, List.setIfInBounds_toArray, List.set_cons_zero, List.set_cons_succ]
  refine Segs.wpM_val (some 6) (.int .i64 0) rfl (by kernel_rfl) (fun W h => Segs.run_cell 48 (.tmp 5) rfl N 0 (by kernel_rfl) _ (isAggKind W) (by rw [(K3.out.below h).cell]; exact G0.out)) ?_
  simp only [Act.put, List.setIfInBounds_toArray, List.set_cons_zero, List.set_cons_succ]
  refine Segs.wpM_val (some 7) (.bool true) rfl (by kernel_rfl) (fun W h => by kernel_rfl) ?_
  simp only [Act.put, List.setIfInBounds_toArray, List.set_cons_zero, List.set_cons_succ]
  refine Segs.wpM_val (some 8) (.bool true) rfl (by kernel_rfl) (fun W h => by kernel_rfl) ?_
  simp only [Act.put, List.setIfInBounds_toArray, List.set_cons_zero, List.set_cons_succ]
  refine Segs.wpM_val (some 9) (.pointer (some ⟨N, 0, none⟩)) rfl (by kernel_rfl) (fun W h => by kernel_rfl) ?_
  simp only [Act.put, List.setIfInBounds_toArray, List.set_cons_zero, List.set_cons_succ]
  refine Segs.wpM_val (some 10) (.int .i64 0) rfl (by kernel_rfl) (fun W h => Segs.run_cell 48 (.tmp 9) rfl N 0 (by kernel_rfl) _ (isAggKind W) (by rw [(K3.out.below h).cell]; exact G0.out)) ?_
  simp only [Act.put, List.setIfInBounds_toArray, List.set_cons_zero, List.set_cons_succ]
  refine Segs.wpM_val (some 11) (.bool true) rfl (by kernel_rfl) (fun W h => by kernel_rfl) ?_
  simp only [Act.put, List.setIfInBounds_toArray, List.set_cons_zero, List.set_cons_succ]
  refine Segs.wpM_val (some 12) (.bool true) rfl (by kernel_rfl) (fun W h => by kernel_rfl) ?_
  simp only [Act.put, List.setIfInBounds_toArray, List.set_cons_zero, List.set_cons_succ]
  refine Segs.wpM_val (some 13) (.bool true) rfl (by kernel_rfl) (fun W h => by kernel_rfl) ?_
  simp only [Act.put, List.setIfInBounds_toArray, List.set_cons_zero, List.set_cons_succ]
  refine Segs.wpM_val (some 14) (.pointer (some ⟨N, 0, none⟩)) rfl (by kernel_rfl) (fun W h => by kernel_rfl) ?_
  simp only [Act.put, List.setIfInBounds_toArray, List.set_cons_zero, List.set_cons_succ]
  refine Segs.wpM_val (some 15) (.int .i64 0) rfl (by kernel_rfl) (fun W h => Segs.run_cell 48 (.tmp 14) rfl N 0 (by kernel_rfl) _ (isAggKind W) (by rw [(K3.out.below h).cell]; exact G0.out)) ?_
  simp only [Act.put, List.setIfInBounds_toArray, List.set_cons_zero, List.set_cons_succ]
  refine Segs.wpM_val (some 16) (.pointer (some ⟨N + 1, 0, none⟩)) rfl (by kernel_rfl) (fun W h => by kernel_rfl) ?_
  simp only [Act.put, List.setIfInBounds_toArray, List.set_cons_zero, List.set_cons_succ]
  refine Segs.wpM_val (some 17) (.func (.func 95) #[] #[]) rfl (by kernel_rfl) (fun W h => Segs.run_cell 128 (.tmp 16) rfl (N + 1) 0 (by kernel_rfl) _ (isAggFn W) (by rw [(M3.out.below h).cell]; rfl)) ?_
  simp only [Act.put, List.setIfInBounds_toArray, List.set_cons_zero, List.set_cons_succ]
  refine Segs.wpM_val (some 18) (.agg CS) rfl (by kernel_rfl) (fun W h => Segs.run_row 51 (.tmp 1) rfl N (by kernel_rfl) 51 CS _ (K3.out.below h) Tryz.underlying51 rfl (info19 NC.out.size)) ?_
  simp only [Act.put, List.setIfInBounds_toArray, List.set_cons_zero, List.set_cons_succ]
  refine Segs.wpM_val (some 19) (.agg CS) rfl (by kernel_rfl) (fun W h => Segs.run_built 120 _ rfl CS (built_shape_of n HCS.out (by kernel_rfl))) ?_
  simp only [Act.put, List.setIfInBounds_toArray, List.set_cons_zero, List.set_cons_succ]
  refine Segs.wpM_call (some 20) 95 #[.agg CS] (.bool B) rfl (by kernel_rfl) (fun W => by kernel_rfl) (fun W h => HC.out W (L3.out.on h (Nat.le_refl _))) ?_
  simp only [Act.put, List.setIfInBounds_toArray, List.set_cons_zero, List.set_cons_succ]
  refine Segs.wpM_val (some 21) (.bool B) rfl (by kernel_rfl) (fun W h => by kernel_rfl) ?_
  simp only [Act.put, List.setIfInBounds_toArray, List.set_cons_zero, List.set_cons_succ]
  refine Segs.wpM_val (some 2) (.bool B) rfl (by kernel_rfl) (fun W h => by kernel_rfl) ?_
  simp only [Act.put, List.setIfInBounds_toArray, List.set_cons_zero, List.set_cons_succ]
  refine Segs.wpM_end (fun W6 h6 => ?_)
  have B6 := Lib.hid (B3.out.call h6)
  go_wp2_with fail
  go_ret
  exact ⟨rfl, by rw [HN.out]; exact B6.out.1⟩
set_option maxRecDepth 100000 in
set_option maxHeartbeats 1000000 in
theorem valid_1 (n : Nd) (w : World) (hk : n.kind = 1) (h16 : n.refs.length = 16) (hsz : ∀ r ∈ rfs n, r.size < 32 → GetC r) (hl : Laid2 w) :
    Calls Tryz.prog 65 #[.agg (ndC n)] w fun e w' => e = .returned (.bool (validB n)) ∧ Below w.heap.size w w' := by
  have hcall : ∀ W, Laid2 W → Calls Tryz.prog 96 #[.agg (ndC n)] W fun e w' => e = .returned (.bool (validB n)) ∧ Below W.heap.size W w' := fun W h => by
    rw [validB1 n hk]
    exact mleaf_any n W h16
  have g0 : (ndC n)[0]? = some (.int .i64 1) := by show some (Value.int .i64 n.kind) = _; rw [hk]
  obtain ⟨CS, hCS⟩ : ∃ cs, cs = ndC n := ⟨_, rfl⟩
  have hcs : Ndc CS := by rw [hCS]; exact .of _
  rw [← hCS] at hcall g0 ⊢
  obtain ⟨B, hB⟩ : ∃ b, b = validB n := ⟨_, rfl⟩
  rw [← hB] at hcall ⊢
  have k0 := Blk.new w 51 CS
  have k1 := k0.alloc (.cells #[.nilFunc, .nilFunc, .nilFunc, .nilFunc] 129)
  have m1 := Blk.new (w.alloc (.cells CS 51)) 129 #[.nilFunc, .nilFunc, .nilFunc, .nilFunc]
  rw [World.size_alloc] at m1
  have b1 := ((Bl.start w).alloc (.cells CS 51)).alloc (.cells #[.nilFunc, .nilFunc, .nilFunc, .nilFunc] 129)
  have m2 := m1.row (cs := #[.func (.func 95) #[] #[], .func (.func 96) #[] #[], .func (.func 97) #[] #[], .func (.func 98) #[] #[]])
  have k2 := k1.rowOther (g' := w.heap.size + 1) (cs := #[.func (.func 95) #[] #[], .func (.func 96) #[] #[], .func (.func 97) #[] #[], .func (.func 98) #[] #[]]) (by omega)
  have b2 := Bl.setRow b1 (g := w.heap.size + 1) (by omega) #[.func (.func 95) #[] #[], .func (.func 96) #[] #[], .func (.func 97) #[] #[], .func (.func 98) #[] #[]]
  have HCS := Lib.hid hCS
  have NC := Lib.hid hcs
  have HC := Lib.hid hcall
  have G0 := Lib.hid g0
  have HL := Lib.hid hl
  have M1 := Lib.hid m1
  have K2 := Lib.hid k2
  have M2 := Lib.hid m2
  have B2 := Lib.hid b2
  clear hcall g0 hCS hcs hB k0 k1 m1 b1 k2 m2 b2 hl hk h16 hsz
  go_enter Tryz.func65, Tryz.ntmps65
  go_wp2_with (refine wpList_store_rowTo rfl 129 (.tmp 3) (.tmp 4) rfl rfl (w.heap.size + 1) #[.func (.func 95) #[] #[], .func (.func 96) #[] #[], .func (.func 97) #[] #[], .func (.func 98) #[] #[]] rfl rfl 129 #[.nilFunc, .nilFunc, .nilFunc, .nilFunc] M1.out (by kernel_rfl) rfl (by kernel_rfl) ?_)
  generalize ((w.alloc (.cells CS 51)).alloc (.cells #[.nilFunc, .nilFunc, .nilFunc, .nilFunc] 129)).setRow (w.heap.size + 1) #[.func (.func 95) #[] #[], .func (.func 96) #[] #[], .func (.func 97) #[] #[], .func (.func 98) #[] #[]] = W1 at *
  generalize hN : w.heap.size = N at *
  have HN := Lib.hid hN
  clear hN
  refine Segs.wp_region_segs Segs.Hist (List.replicate 18 false) Segs.Hist.refl Segs.Hist.trans (by kernel_rfl) (by kernel_rfl) (by kernel_rfl) ?_
  have K3 := Lib.hid (show Blk W1.drew N 51 CS from K2.out)
  have M3 := Lib.hid (show Blk W1.drew (N + 1) 129 _ from M2.out)
  have B3 := Lib.hid B2.out.drew
  have L3 := Lib.hid (HL.out.on (by rw [HN.out]; exact B3.out.1) (Nat.le_refl _))
  generalize W1.drew = W2 at *
  refine Segs.wpM_val (some 5) (.pointer (some ⟨N, 0, none⟩)) rfl (by kernel_rfl) (fun W h => by kernel_rfl) ?_
  simp only [Act.put, List.setIfInBounds_toArray, List.set_cons_zero, List.set_cons_succ]
  refine Segs.wpM_val (some 6) (.int .i64 1) rfl (by kernel_rfl) (fun W h => Segs.run_cell 48 (.tmp 5) rfl N 0 (by kernel_rfl) _ (isAggKind W) (by rw [(K3.out.below h).cell]; exact G0.out)) ?_
  simp only [Act.put, List.setIfInBounds_toArray, List.set_cons_zero, List.set_cons_succ]
  refine Segs.wpM_val (some 7) (.bool true) rfl (by kernel_rfl) (fun W h => by kernel_rfl) ?_
  simp only [Act.put, List.setIfInBounds_toArray, List.set_cons_zero, List.set_cons_succ]
  refine Segs.wpM_val (some 8) (.bool true) rfl (by kernel_rfl) (fun W h => by kernel_rfl) ?_
  simp only [Act.put, List.setIfInBounds_toArray, List.set_cons_zero, List.set_cons_succ]
  refine Segs.wpM_val (some 9) (.pointer (some ⟨N, 0, none⟩)) rfl (by kernel_rfl) (fun W h => by kernel_rfl) ?_
  simp only [Act.put, List.setIfInBounds_toArray, List.set_cons_zero, List.set_cons_succ]
  refine Segs.wpM_val (some 10) (.int .i64 1) rfl (by kernel_rfl) (fun W h => Segs.run_cell 48 (.tmp 9) rfl N 0 (by kernel_rfl) _ (isAggKind W) (by rw [(K3.out.below h).cell]; exact G0.out)) ?_
  simp only [Act.put, List.setIfInBounds_toArray, List.set_cons_zero, List.set_cons_succ]
  refine Segs.wpM_val (some 11) (.bool true) rfl (by kernel_rfl) (fun W h => by kernel_rfl) ?_
  simp only [Act.put, List.setIfInBounds_toArray, List.set_cons_zero, List.set_cons_succ]
  refine Segs.wpM_val (some 12) (.bool true) rfl (by kernel_rfl) (fun W h => by kernel_rfl) ?_
  simp only [Act.put, List.setIfInBounds_toArray, List.set_cons_zero, List.set_cons_succ]
  refine Segs.wpM_val (some 13) (.bool true) rfl (by kernel_rfl) (fun W h => by kernel_rfl) ?_
  simp only [Act.put, List.setIfInBounds_toArray, List.set_cons_zero, List.set_cons_succ]
  refine Segs.wpM_val (some 14) (.pointer (some ⟨N, 0, none⟩)) rfl (by kernel_rfl) (fun W h => by kernel_rfl) ?_
  simp only [Act.put, List.setIfInBounds_toArray, List.set_cons_zero, List.set_cons_succ]
  refine Segs.wpM_val (some 15) (.int .i64 1) rfl (by kernel_rfl) (fun W h => Segs.run_cell 48 (.tmp 14) rfl N 0 (by kernel_rfl) _ (isAggKind W) (by rw [(K3.out.below h).cell]; exact G0.out)) ?_
  simp only [Act.put, List.setIfInBounds_toArray, List.set_cons_zero, List.set_cons_succ]
  refine Segs.wpM_val (some 16) (.pointer (some ⟨N + 1, 1, none⟩)) rfl (by kernel_rfl) (fun W h => by kernel_rfl) ?_
  simp only [Act.put, List.setIfInBounds_toArray, List.set_cons_zero, List.set_cons_succ]
  refine Segs.wpM_val (some 17) (.func (.func 96) #[] #[]) rfl (by kernel_rfl) (fun W h => Segs.run_cell 128 (.tmp 16) rfl (N + 1) 1 (by kernel_rfl) _ (isAggFn W) (by rw [(M3.out.below h).cell]; rfl)) ?_
  simp only [Act.put, List.setIfInBounds_toArray, List.set_cons_zero, List.set_cons_succ]
  refine Segs.wpM_val (some 18) (.agg CS) rfl (by kernel_rfl) (fun W h => Segs.run_row 51 (.tmp 1) rfl N (by kernel_rfl) 51 CS _ (K3.out.below h) Tryz.underlying51 rfl (info19 NC.out.size)) ?_
  simp only [Act.put, List.setIfInBounds_toArray, List.set_cons_zero, List.set_cons_succ]
  refine Segs.wpM_val (some 19) (.agg CS) rfl (by kernel_rfl) (fun W h => Segs.run_built 120 _ rfl CS (built_shape_of n HCS.out (by kernel_rfl))) ?_
  simp only [Act.put, List.setIfInBounds_toArray, List.set_cons_zero, List.set_cons_succ]
  refine Segs.wpM_call (some 20) 96 #[.agg CS] (.bool B) rfl (by kernel_rfl) (fun W => by kernel_rfl) (fun W h => HC.out W (L3.out.on h (Nat.le_refl _))) ?_
  simp only [Act.put, List.setIfInBounds_toArray, List.set_cons_zero, List.set_cons_succ]
  refine Segs.wpM_val (some 21) (.bool B) rfl (by kernel_rfl) (fun W h => by kernel_rfl) ?_
  simp only [Act.put, List.setIfInBounds_toArray, List.set_cons_zero, List.set_cons_succ]
  refine Segs.wpM_val (some 2) (.bool B) rfl (by kernel_rfl) (fun W h => by kernel_rfl) ?_
  simp only [Act.put, List.setIfInBounds_toArray, List.set_cons_zero, List.set_cons_succ]
  refine Segs.wpM_end (fun W6 h6 => ?_)
  have B6 := Lib.hid (B3.out.call h6)
  go_wp2_with fail
  go_ret
  exact ⟨rfl, by rw [HN.out]; exact B6.out.1⟩
set_option maxRecDepth 100000 in
set_option maxHeartbeats 1000000 in
theorem valid_2 (n : Nd) (w : World) (hk : n.kind = 2) (h16 : n.refs.length = 16) (hsz : ∀ r ∈ rfs n, r.size < 32 → GetC r) (hl : Laid2 w) :
    Calls Tryz.prog 65 #[.agg (ndC n)] w fun e w' => e = .returned (.bool (validB n)) ∧ Below w.heap.size w w' := by
  have hcall : ∀ W, Laid2 W → Calls Tryz.prog 97 #[.agg (ndC n)] W fun e w' => e = .returned (.bool (validB n)) ∧ Below W.heap.size W w' := fun W h => by
    rw [validB2 n hk h16]
    exact mext_any n W h16 h (hsz _ (rf_mem n 0 (by decide)))
  have g0 : (ndC n)[0]? = some (.int .i64 2) := by show some (Value.int .i64 n.kind) = _; rw [hk]
  obtain ⟨CS, hCS⟩ : ∃ cs, cs = ndC n := ⟨_, rfl⟩
  have hcs : Ndc CS := by rw [hCS]; exact .of _
  rw [← hCS] at hcall g0 ⊢
  obtain ⟨B, hB⟩ : ∃ b, b = validB n := ⟨_, rfl⟩
  rw [← hB] at hcall ⊢
  have k0 := Blk.new w 51 CS
  have k1 := k0.alloc (.cells #[.nilFunc, .nilFunc, .nilFunc, .nilFunc] 129)
  have m1 := Blk.new (w.alloc (.cells CS 51)) 129 #[.nilFunc, .nilFunc, .nilFunc, .nilFunc]
  rw [World.size_alloc] at m1
  have b1 := ((Bl.start w).alloc (.cells CS 51)).alloc (.cells #[.nilFunc, .nilFunc, .nilFunc, .nilFunc] 129)
  have m2 := m1.row (cs := #[.func (.func 95) #[] #[], .func (.func 96) #[] #[], .func (.func 97) #[] #[], .func (.func 98) #[] #[]])
  have k2 := k1.rowOther (g' := w.heap.size + 1) (cs := #[.func (.func 95) #[] #[], .func (.func 96) #[] #[], .func (.func 97) #[] #[], .func (.func 98) #[] #[]]) (by omega)
  have b2 := Bl.setRow b1 (g := w.heap.size + 1) (by omega) #[.func (.func 95) #[] #[], .func (.func 96) #[] #[], .func (.func 97) #[] #[], .func (.func 98) #[] #[]]
  have HCS := Lib.hid hCS
  have NC := Lib.hid hcs
  have HC := Lib.hid hcall
  have G0 := Lib.hid g0
  have HL := Lib.hid hl
  have M1 := Lib.hid m1
  have K2 := Lib.hid k2
  have M2 := Lib.hid m2
  have B2 := Lib.hid b2
  clear hcall g0 hCS hcs hB k0 k1 m1 b1 k2 m2 b2 hl hk h16 hsz
  go_enter Tryz.func65, Tryz.ntmps65
  go_wp2_with (refine wpList_store_rowTo rfl 129 (.tmp 3) (.tmp 4) rfl rfl (w.heap.size + 1) #[.func (.func 95) #[] #[], .func (.func 96) #[] #[], .func (.func 97) #[] #[], .func (.func 98) #[] #[]] rfl rfl 129 #[.nilFunc, .nilFunc, .nilFunc, .nilFunc] M1.out (by kernel_rfl) rfl (by kernel_rfl) ?_)
  generalize ((w.alloc (.cells CS 51)).alloc (.cells #[.nilFunc, .nilFunc, .nilFunc, .nilFunc] 129)).setRow (w.heap.size + 1) #[.func (.func 95) #[] #[], .func (.func 96) #[] #[], .func (.func 97) #[] #[], .func (.func 98) #[] #[]] = W1 at *
  generalize hN : w.heap.size = N at *
  have HN := Lib.hid hN
  clear hN
  refine Segs.wp_region_segs Segs.Hist (List.replicate 18 false) Segs.Hist.refl Segs.Hist.trans (by kernel_rfl) (by kernel_rfl) (by kernel_rfl) ?_
  have K3 := Lib.hid (show Blk W1.drew N 51 CS from K2.out)
  have M3 := Lib.hid (show Blk W1.drew (N + 1) 129 _ from M2.out)
  have B3 := Lib.hid B2.out.drew
  have L3 := Lib.hid (HL.out.on (by rw [HN.out]; exact B3.out.1) (Nat.le_refl _))
  generalize W1.drew = W2 at *
  refine Segs.wpM_val (some 5) (.pointer (some ⟨N, 0, none⟩)) rfl (by kernel_rfl) (fun W h => by kernel_rfl) ?_
  simp only [Act.put, List.setIfInBounds_toArray, List.set_cons_zero, List.set_cons_succ]
  refine Segs.wpM_val (some 6) (.int .i64 2) rfl (by kernel_rfl) (fun W h => Segs.run_cell 48 (.tmp 5) rfl N 0 (by kernel_rfl) _ (isAggKind W) (by rw [(K3.out.below h).cell]; exact G0.out)) ?_
  simp only [Act.put, List.setIfInBounds_toArray, List.set_cons_zero, List.set_cons_succ]
  refine Segs.wpM_val (some 7) (.bool true) rfl (by kernel_rfl) (fun W h => by kernel_rfl) ?_
  simp only [Act.put, List.setIfInBounds_toArray, List.set_cons_zero, List.set_cons_succ]
  refine Segs.wpM_val (some 8) (.bool true) rfl (by kernel_rfl) (fun W h => by kernel_rfl) ?_
  simp only [Act.put, List.setIfInBounds_toArray, List.set_cons_zero, List.set_cons_succ]
  refine Segs.wpM_val (some 9) (.pointer (some ⟨N, 0, none⟩)) rfl (by kernel_rfl) (fun W h => by kernel_rfl) ?_
  simp only [Act.put, List.setIfInBounds_toArray, List.set_cons_zero, List.set_cons_succ]
  refine Segs.wpM_val (some 10) (.int .i64 2) rfl (by kernel_rfl) (fun W h => Segs.run_cell 48 (.tmp 9) rfl N 0 (by kernel_rfl) _ (isAggKind W) (by rw [(K3.out.below h).cell]; exact G0.out)) ?_
  simp only [Act.put, List.setIfInBounds_toArray, List.set_cons_zero, List.set_cons_succ]
  refine Segs.wpM_val (some 11) (.bool true) rfl (by kernel_rfl) (fun W h => by kernel_rfl) ?_
  simp only [Act.put, List.setIfInBounds_toArray, List.set_cons_zero, List.set_cons_succ]
  refine Segs.wpM_val (some 12) (.bool true) rfl (by kernel_rfl) (fun W h => by kernel_rfl) ?_
  simp only [Act.put, List.setIfInBounds_toArray, List.set_cons_zero, List.set_cons_succ]
  refine Segs.wpM_val (some 13) (.bool true) rfl (by kernel_rfl) (fun W h => by kernel_rfl) ?_
  simp only [Act.put, List.setIfInBounds_toArray, List.set_cons_zero, List.set_cons_succ]
  refine Segs.wpM_val (some 14) (.pointer (some ⟨N, 0, none⟩)) rfl (by kernel_rfl) (fun W h => by kernel_rfl) ?_
  simp only [Act.put, List.setIfInBounds_toArray, List.set_cons_zero, List.set_cons_succ]
  refine Segs.wpM_val (some 15) (.int .i64 2) rfl (by kernel_rfl) (fun W h => Segs.run_cell 48 (.tmp 14) rfl N 0 (by kernel_rfl) _ (isAggKind W) (by rw [(K3.out.below h).cell]; exact G0.out)) ?_
  simp only [Act.put, List.setIfInBounds_toArray, List.set_cons_zero, List.set_cons_succ]
  refine Segs.wpM_val (some 16) (.pointer (some ⟨N + 1, 2, none⟩)) rfl (by kernel_rfl) (fun W h => by kernel_rfl) ?_
  simp only [Act.put, List.setIfInBounds_toArray, List.set_cons_zero, List.set_cons_succ]
  refine Segs.wpM_val (some 17) (.func (.func 97) #[] #[]) rfl (by kernel_rfl) (fun W h => Segs.run_cell 128 (.tmp 16) rfl (N + 1) 2 (by kernel_rfl) _ (isAggFn W) (by rw [(M3.out.below h).cell]; rfl)) ?_
  simp only [Act.put, List.setIfInBounds_toArray, List.set_cons_zero, List.set_cons_succ]
  refine Segs.wpM_val (some 18) (.agg CS) rfl (by kernel_rfl) (fun W h => Segs.run_row 51 (.tmp 1) rfl N (by kernel_rfl) 51 CS _ (K3.out.below h) Tryz.underlying51 rfl (info19 NC.out.size)) ?_
  simp only [Act.put, List.setIfInBounds_toArray, List.set_cons_zero, List.set_cons_succ]
  refine Segs.wpM_val (some 19) (.agg CS) rfl (by kernel_rfl) (fun W h => Segs.run_built 120 _ rfl CS (built_shape_of n HCS.out (by kernel_rfl))) ?_
  simp only [Act.put, List.setIfInBounds_toArray, List.set_cons_zero, List.set_cons_succ]
  refine Segs.wpM_call (some 20) 97 #[.agg CS] (.bool B) rfl (by kernel_rfl) (fun W => by kernel_rfl) (fun W h => HC.out W (L3.out.on h (Nat.le_refl _))) ?_
  simp only [Act.put, List.setIfInBounds_toArray, List.set_cons_zero, List.set_cons_succ]
  refine Segs.wpM_val (some 21) (.bool B) rfl (by kernel_rfl) (fun W h => by kernel_rfl) ?_
  simp only [Act.put, List.setIfInBounds_toArray, List.set_cons_zero, List.set_cons_succ]
  refine Segs.wpM_val (some 2) (.bool B) rfl (by kernel_rfl) (fun W h => by kernel_rfl) ?_
  simp only [Act.put, List.setIfInBounds_toArray, List.set_cons_zero, List.set_cons_succ]
  refine Segs.wpM_end (fun W6 h6 => ?_)
  have B6 := Lib.hid (B3.out.call h6)
  go_wp2_with fail
  go_ret
  exact ⟨rfl, by rw [HN.out]; exact B6.out.1⟩
set_option maxRecDepth 100000 in
set_option maxHeartbeats 1000000 in
theorem valid_3 (n : Nd) (w : World) (hk : n.kind = 3) (h16 : n.refs.length = 16) (hsz : ∀ r ∈ rfs n, r.size < 32 → GetC r) (hl : Laid2 w) :
    Calls Tryz.prog 65 #[.agg (ndC n)] w fun e w' => e = .returned (.bool (validB n)) ∧ Below w.heap.size w w' := by
  have hcall : ∀ W, Laid2 W → Calls Tryz.prog 98 #[.agg (ndC n)] W fun e w' => e = .returned (.bool (validB n)) ∧ Below W.heap.size W w' := fun W h => by
    rw [validB3 n hk h16]
    exact mbranch_any n W hsz h
  have g0 : (ndC n)[0]? = some (.int .i64 3) := by show some (Value.int .i64 n.kind) = _; rw [hk]
  obtain ⟨CS, hCS⟩ : ∃ cs, cs = ndC n := ⟨_, rfl⟩
  have hcs : Ndc CS := by rw [hCS]; exact .of _
  rw [← hCS] at hcall g0 ⊢
  obtain ⟨B, hB⟩ : ∃ b, b = validB n := ⟨_, rfl⟩
  rw [← hB] at hcall ⊢
  have k0 := Blk.new w 51 CS
  have k1 := k0.alloc (.cells #[.nilFunc, .nilFunc, .nilFunc, .nilFunc] 129)
  have m1 := Blk.new (w.alloc (.cells CS 51)) 129 #[.nilFunc, .nilFunc, .nilFunc, .nilFunc]
  rw [World.size_alloc] at m1
  have b1 := ((Bl.start w).alloc (.cells CS 51)).alloc (.cells #[.nilFunc, .nilFunc, .nilFunc, .nilFunc] 129)
  have m2 := m1.row (cs := #[.func (.func 95) #[] #[], .func (.func 96) #[] #[], .func (.func 97) #[] #[], .func (.func 98) #[] #[]])
  have k2 := k1.rowOther (g' := w.heap.size + 1) (cs := #[.func (.func 95) #[] #[], .func (.func 96) #[] #[], .func (.func 97) #[] #[], .func (.func 98) #[] #[]]) (by omega)
  have b2 := Bl.setRow b1 (g := w.heap.size + 1) (by omega) #[.func (.func 95) #[] #[], .func (.func 96) #[] #[], .func (.func 97) #[] #[], .func (.func 98) #[] #[]]
  have HCS := Lib.hid hCS
  have NC := Lib.hid hcs
  have HC := Lib.hid hcall
  have G0 := Lib.hid g0
  have HL := Lib.hid hl
  have M1 := Lib.hid m1
  have K2 := Lib.hid k2
  have M2 := Lib.hid m2
  have B2 := Lib.hid b2
  clear hcall g0 hCS hcs hB k0 k1 m1 b1 k2 m2 b2 hl hk h16 hsz
  go_enter Tryz.func65, Tryz.ntmps65
  go_wp2_with (refine wpList_store_rowTo rfl 129 (.tmp 3) (.tmp 4) rfl rfl (w.heap.size + 1) #[.func (.func 95) #[] #[], .func (.func 96) #[] #[], .func (.func 97) #[] #[], .func (.func 98) #[] #[]] rfl rfl 129 #[.nilFunc, .nilFunc, .nilFunc, .nilFunc] M1.out (by kernel_rfl) rfl (by kernel_rfl) ?_)
  generalize ((w.alloc (.cells CS 51)).alloc (.cells #[.nilFunc, .nilFunc, .nilFunc, .nilFunc] 129)).setRow (w.heap.size + 1) #[.func (.func 95) #[] #[], .func (.func 96) #[] #[], .func (.func 97) #[] #[], .func (.func 98) #[] #[]] = W1 at *
  generalize hN : w.heap.size = N at *
  have HN := Lib.hid hN
  clear hN
  refine Segs.wp_region_segs Segs.Hist (List.replicate 18 false) Segs.Hist.refl Segs.Hist.trans (by kernel_rfl) (by kernel_rfl) (by kernel_rfl) ?_
  have K3 := Lib.hid (show Blk W1.drew N 51 CS from K2.out)
  have M3 := Lib.hid (show Blk W1.drew (N + 1) 129 _ from M2.out)
  have B3 := Lib.hid B2.out.drew
  have L3 := Lib.hid (HL.out.on (by rw [HN.out]; exact B3.out.1) (Nat.le_refl _))
  generalize W1.drew = W2 at *
  refine Segs.wpM_val (some 5) (.pointer (some ⟨N, 0, none⟩)) rfl (by kernel_rfl) (fun W h => by kernel_rfl) ?_
  simp only [Act.put, List.setIfInBounds_toArray, List.set_cons_zero, List.set_cons_succ]
  refine Segs.wpM_val (some 6) (.int .i64 3) rfl (by kernel_rfl) (fun W h => Segs.run_cell 48 (.tmp 5) rfl N 0 (by kernel_rfl) _ (isAggKind W) (by rw [(K3.out.below h).cell]; exact G0.out)) ?_
  simp only [Act.put, List.setIfInBounds_toArray, List.set_cons_zero, List.set_cons_succ]
  refine Segs.wpM_val (some 7) (.bool true) rfl (by kernel_rfl) (fun W h => by kernel_rfl) ?_
  simp only [Act.put, List.setIfInBounds_toArray, List.set_cons_zero, List.set_cons_succ]
  refine Segs.wpM_val (some 8) (.bool true) rfl (by kernel_rfl) (fun W h => by kernel_rfl) ?_
  simp only [Act.put, List.setIfInBounds_toArray, List.set_cons_zero, List.set_cons_succ]
  refine Segs.wpM_val (some 9) (.pointer (some ⟨N, 0, none⟩)) rfl (by kernel_rfl) (fun W h => by kernel_rfl) ?_
  simp only [Act.put, List.setIfInBounds_toArray, List.set_cons_zero, List.set_cons_succ]
  refine Segs.wpM_val (some 10) (.int .i64 3) rfl (by kernel_rfl) (fun W h => Segs.run_cell 48 (.tmp 9) rfl N 0 (by kernel_rfl) _ (isAggKind W) (by rw [(K3.out.below h).cell]; exact G0.out)) ?_
  simp only [Act.put, List.setIfInBounds_toArray, List.set_cons_zero, List.set_cons_succ]
  refine Segs.wpM_val (some 11) (.bool true) rfl (by kernel_rfl) (fun W h => by kernel_rfl) ?_
  simp only [Act.put, List.setIfInBounds_toArray, List.set_cons_zero, List.set_cons_succ]
  refine Segs.wpM_val (some 12) (.bool true) rfl (by kernel_rfl) (fun W h => by kernel_rfl) ?_
  simp only [Act.put, List.setIfInBounds_toArray, List.set_cons_zero, List.set_cons_succ]
  refine Segs.wpM_val (some 13) (.bool true) rfl (by kernel_rfl) (fun W h => by kernel_rfl) ?_
  simp only [Act.put, List.setIfInBounds_toArray, List.set_cons_zero, List.set_cons_succ]
  refine Segs.wpM_val (some 14) (.pointer (some ⟨N, 0, none⟩)) rfl (by kernel_rfl) (fun W h => by kernel_rfl) ?_
  simp only [Act.put, List.setIfInBounds_toArray, List.set_cons_zero, List.set_cons_succ]
  refine Segs.wpM_val (some 15) (.int .i64 3) rfl (by kernel_rfl) (fun W h => Segs.run_cell 48 (.tmp 14) rfl N 0 (by kernel_rfl) _ (isAggKind W) (by rw [(K3.out.below h).cell]; exact G0.out)) ?_
  simp only [Act.put, List.setIfInBounds_toArray, List.set_cons_zero, List.set_cons_succ]
  refine Segs.wpM_val (some 16) (.pointer (some ⟨N + 1, 3, none⟩)) rfl (by kernel_rfl) (fun W h => by kernel_rfl) ?_
  simp only [Act.put, List.setIfInBounds_toArray, List.set_cons_zero, List.set_cons_succ]
  refine Segs.wpM_val (some 17) (.func (.func 98) #[] #[]) rfl (by kernel_rfl) (fun W h => Segs.run_cell 128 (.tmp 16) rfl (N + 1) 3 (by kernel_rfl) _ (isAggFn W) (by rw [(M3.out.below h).cell]; rfl)) ?_
  simp only [Act.put, List.setIfInBounds_toArray, List.set_cons_zero, List.set_cons_succ]
  refine Segs.wpM_val (some 18) (.agg CS) rfl (by kernel_rfl) (fun W h => Segs.run_row 51 (.tmp 1) rfl N (by kernel_rfl) 51 CS _ (K3.out.below h) Tryz.underlying51 rfl (info19 NC.out.size)) ?_
  simp only [Act.put, List.setIfInBounds_toArray, List.set_cons_zero, List.set_cons_succ]
  refine Segs.wpM_val (some 19) (.agg CS) rfl (by kernel_rfl) (fun W h => Segs.run_built 120 _ rfl CS (built_shape_of n HCS.out (by kernel_rfl))) ?_
  simp only [Act.put, List.setIfInBounds_toArray, List.set_cons_zero, List.set_cons_succ]
  refine Segs.wpM_call (some 20) 98 #[.agg CS] (.bool B) rfl (by kernel_rfl) (fun W => by kernel_rfl) (fun W h => HC.out W (L3.out.on h (Nat.le_refl _))) ?_
  simp only [Act.put, List.setIfInBounds_toArray, List.set_cons_zero, List.set_cons_succ]
  refine Segs.wpM_val (some 21) (.bool B) rfl (by kernel_rfl) (fun W h => by kernel_rfl) ?_
  simp only [Act.put, List.setIfInBounds_toArray, List.set_cons_zero, List.set_cons_succ]
  refine Segs.wpM_val (some 2) (.bool B) rfl (by kernel_rfl) (fun W h => by kernel_rfl) ?_
  simp only [Act.put, List.setIfInBounds_toArray, List.set_cons_zero, List.set_cons_succ]
  refine Segs.wpM_end (fun W6 h6 => ?_)
  have B6 := Lib.hid (B3.out.call h6)
  go_wp2_with fail
  go_ret
  exact ⟨rfl, by rw [HN.out]; exact B6.out.1⟩
set_option maxRecDepth 100000 in
set_option maxHeartbeats 1000000 in
theorem valid_neg (n : Nd) (w : World) (hk : n.kind < 0) (h16 : n.refs.length = 16) (hsz : ∀ r ∈ rfs n, r.size < 32 → GetC r) (hl : Laid2 w) :
    Calls Tryz.prog 65 #[.agg (ndC n)] w fun e w' => e = .returned (.bool (validB n)) ∧ Below w.heap.size w w' := by
  have g0 : (ndC n)[0]? = some (.int .i64 n.kind) := rfl
  have hb := validB_no n (by omega)
  rw [hb]
  obtain ⟨K, hK⟩ : ∃ K, K = n.kind := ⟨_, rfl⟩
  rw [← hK] at g0 hk
  obtain ⟨CS, hCS⟩ : ∃ cs, cs = ndC n := ⟨_, rfl⟩
  have hcs : Ndc CS := by rw [hCS]; exact .of _
  rw [← hCS] at g0 ⊢
  have k0 := Blk.new w 51 CS
  have k1 := k0.alloc (.cells #[.nilFunc, .nilFunc, .nilFunc, .nilFunc] 129)
  have m1 := Blk.new (w.alloc (.cells CS 51)) 129 #[.nilFunc, .nilFunc, .nilFunc, .nilFunc]
  rw [World.size_alloc] at m1
  have b1 := ((Bl.start w).alloc (.cells CS 51)).alloc (.cells #[.nilFunc, .nilFunc, .nilFunc, .nilFunc] 129)
  have m2 := m1.row (cs := #[.func (.func 95) #[] #[], .func (.func 96) #[] #[], .func (.func 97) #[] #[], .func (.func 98) #[] #[]])
  have k2 := k1.rowOther (g' := w.heap.size + 1) (cs := #[.func (.func 95) #[] #[], .func (.func 96) #[] #[], .func (.func 97) #[] #[], .func (.func 98) #[] #[]]) (by omega)
  have b2 := Bl.setRow b1 (g := w.heap.size + 1) (by omega) #[.func (.func 95) #[] #[], .func (.func 96) #[] #[], .func (.func 97) #[] #[], .func (.func 98) #[] #[]]
  have HCS := Lib.hid hCS
  have NC := Lib.hid hcs
  have G0 := Lib.hid g0
  have HL := Lib.hid hl
  have M1 := Lib.hid m1
  have K2 := Lib.hid k2
  have M2 := Lib.hid m2
  have B2 := Lib.hid b2
  have hd1 : decide ((0 : Int) ≤ K) = false := decide_eq_false (by omega)
  have HD1 := Lib.hid hd1
  clear hd1 hb hK g0 hCS hcs k0 k1 m1 b1 k2 m2 b2 hl hk h16 hsz
  go_enter Tryz.func65, Tryz.ntmps65
  go_wp2_with (refine wpList_store_rowTo rfl 129 (.tmp 3) (.tmp 4) rfl rfl (w.heap.size + 1) #[.func (.func 95) #[] #[], .func (.func 96) #[] #[], .func (.func 97) #[] #[], .func (.func 98) #[] #[]] rfl rfl 129 #[.nilFunc, .nilFunc, .nilFunc, .nilFunc] M1.out (by kernel_rfl) rfl (by kernel_rfl) ?_)
  generalize ((w.alloc (.cells CS 51)).alloc (.cells #[.nilFunc, .nilFunc, .nilFunc, .nilFunc] 129)).setRow (w.heap.size + 1) #[.func (.func 95) #[] #[], .func (.func 96) #[] #[], .func (.func 97) #[] #[], .func (.func 98) #[] #[]] = W1 at *
  generalize hN : w.heap.size = N at *
  have HN := Lib.hid hN
  clear hN
  refine Segs.wp_region_segs Segs.Hist (List.replicate 18 false) Segs.Hist.refl Segs.Hist.trans (by kernel_rfl) (by kernel_rfl) (by kernel_rfl) ?_
  have K3 := Lib.hid (show Blk W1.drew N 51 CS from K2.out)
  have M3 := Lib.hid (show Blk W1.drew (N + 1) 129 _ from M2.out)
  have B3 := Lib.hid B2.out.drew
  have L3 := Lib.hid (HL.out.on (by rw [HN.out]; exact B3.out.1) (Nat.le_refl _))
  generalize W1.drew = W2 at *
  refine Segs.wpM_val (some 5) (.pointer (some ⟨N, 0, none⟩)) rfl (by kernel_rfl) (fun W h => by kernel_rfl) ?_
  simp only [Act.put, List.setIfInBounds_toArray, List.set_cons_zero, List.set_cons_succ]
  refine Segs.wpM_val (some 6) (.int .i64 K) rfl (by kernel_rfl) (fun W h => Segs.run_cell 48 (.tmp 5) rfl N 0 (by kernel_rfl) _ (isAggKind W) (by rw [(K3.out.below h).cell]; exact G0.out)) ?_
  simp only [Act.put, List.setIfInBounds_toArray, List.set_cons_zero, List.set_cons_succ]
  refine Segs.wpM_val (some 7) (.bool (decide ((0 : Int) ≤ K))) rfl (by kernel_rfl) (fun W h => by kernel_rfl) ?_
  rw [HD1.out]
  simp only [Act.put, List.setIfInBounds_toArray, List.set_cons_zero, List.set_cons_succ]
  refine Segs.wpM_val (some 8) (.bool false) rfl (by kernel_rfl) (fun W h => by kernel_rfl) ?_
  simp only [Act.put, List.setIfInBounds_toArray, List.set_cons_zero, List.set_cons_succ]
  refine Segs.wpM_not (some 9) rfl (by kernel_rfl) ?_
  simp only [Act.put, List.setIfInBounds_toArray, List.set_cons_zero, List.set_cons_succ]
  refine Segs.wpM_not (some 10) rfl (by kernel_rfl) ?_
  simp only [Act.put, List.setIfInBounds_toArray, List.set_cons_zero, List.set_cons_succ]
  refine Segs.wpM_not (some 11) rfl (by kernel_rfl) ?_
  simp only [Act.put, List.setIfInBounds_toArray, List.set_cons_zero, List.set_cons_succ]
  refine Segs.wpM_val (some 12) (.bool false) rfl (by kernel_rfl) (fun W h => by kernel_rfl) ?_
  simp only [Act.put, List.setIfInBounds_toArray, List.set_cons_zero, List.set_cons_succ]
  refine Segs.wpM_val (some 13) (.bool false) rfl (by kernel_rfl) (fun W h => by kernel_rfl) ?_
  simp only [Act.put, List.setIfInBounds_toArray, List.set_cons_zero, List.set_cons_succ]
  refine Segs.wpM_not (some 14) rfl (by kernel_rfl) ?_
  simp only [Act.put, List.setIfInBounds_toArray, List.set_cons_zero, List.set_cons_succ]
  refine Segs.wpM_not (some 15) rfl (by kernel_rfl) ?_
  simp only [Act.put, List.setIfInBounds_toArray, List.set_cons_zero, List.set_cons_succ]
  refine Segs.wpM_not (some 16) rfl (by kernel_rfl) ?_
  simp only [Act.put, List.setIfInBounds_toArray, List.set_cons_zero, List.set_cons_succ]
  refine Segs.wpM_not (some 17) rfl (by kernel_rfl) ?_
  simp only [Act.put, List.setIfInBounds_toArray, List.set_cons_zero, List.set_cons_succ]
  refine Segs.wpM_not (some 18) rfl (by kernel_rfl) ?_
  simp only [Act.put, List.setIfInBounds_toArray, List.set_cons_zero, List.set_cons_succ]
  refine Segs.wpM_not (some 19) rfl (by kernel_rfl) ?_
  simp only [Act.put, List.setIfInBounds_toArray, List.set_cons_zero, List.set_cons_succ]
  refine Segs.wpM_not (some 20) rfl (by kernel_rfl) ?_
  simp only [Act.put, List.setIfInBounds_toArray, List.set_cons_zero, List.set_cons_succ]
  refine Segs.wpM_val (some 21) (.bool false) rfl (by kernel_rfl) (fun W h => by kernel_rfl) ?_
  simp only [Act.put, List.setIfInBounds_toArray, List.set_cons_zero, List.set_cons_succ]
  refine Segs.wpM_val (some 2) (.bool false) rfl (by kernel_rfl) (fun W h => by kernel_rfl) ?_
  simp only [Act.put, List.setIfInBounds_toArray, List.set_cons_zero, List.set_cons_succ]
  refine Segs.wpM_end (fun W6 h6 => ?_)
  have B6 := Lib.hid (B3.out.call h6)
  go_wp2_with fail
  go_ret
  exact ⟨rfl, by rw [HN.out]; exact B6.out.1⟩
set_option maxRecDepth 100000 in
set_option maxHeartbeats 1000000 in
theorem valid_big (n : Nd) (w : World) (hk : 4 ≤ n.kind) (h16 : n.refs.length = 16) (hsz : ∀ r ∈ rfs n, r.size < 32 → GetC r) (hl : Laid2 w) :
    Calls Tryz.prog 65 #[.agg (ndC n)] w fun e w' => e = .returned (.bool (validB n)) ∧ Below w.heap.size w w' := by
  have g0 : (ndC n)[0]? = some (.int .i64 n.kind) := rfl
  have hb := validB_no n (by omega)
  rw [hb]
  obtain ⟨K, hK⟩ : ∃ K, K = n.kind := ⟨_, rfl⟩
  rw [← hK] at g0 hk
  obtain ⟨CS, hCS⟩ : ∃ cs, cs = ndC n := ⟨_, rfl⟩
  have hcs : Ndc CS := by rw [hCS]; exact .of _
  rw [← hCS] at g0 ⊢
  have k0 := Blk.new w 51 CS
  have k1 := k0.alloc (.cells #[.nilFunc, .nilFunc, .nilFunc, .nilFunc] 129)
  have m1 := Blk.new (w.alloc (.cells CS 51)) 129 #[.nilFunc, .nilFunc, .nilFunc, .nilFunc]
  rw [World.size_alloc] at m1
  have b1 := ((Bl.start w).alloc (.cells CS 51)).alloc (.cells #[.nilFunc, .nilFunc, .nilFunc, .nilFunc] 129)
  have m2 := m1.row (cs := #[.func (.func 95) #[] #[], .func (.func 96) #[] #[], .func (.func 97) #[] #[], .func (.func 98) #[] #[]])
  have k2 := k1.rowOther (g' := w.heap.size + 1) (cs := #[.func (.func 95) #[] #[], .func (.func 96) #[] #[], .func (.func 97) #[] #[], .func (.func 98) #[] #[]]) (by omega)
  have b2 := Bl.setRow b1 (g := w.heap.size + 1) (by omega) #[.func (.func 95) #[] #[], .func (.func 96) #[] #[], .func (.func 97) #[] #[], .func (.func 98) #[] #[]]
  have HCS := Lib.hid hCS
  have NC := Lib.hid hcs
  have G0 := Lib.hid g0
  have HL := Lib.hid hl
  have M1 := Lib.hid m1
  have K2 := Lib.hid k2
  have M2 := Lib.hid m2
  have B2 := Lib.hid b2
  have hd1 : decide ((0 : Int) ≤ K) = true := decide_eq_true (by omega)
  have HD1 := Lib.hid hd1
  have hd2 : decide (K < (4 : Int)) = false := decide_eq_false (by omega)
  have HD2 := Lib.hid hd2
  clear hd1 hd2 hb hK g0 hCS hcs k0 k1 m1 b1 k2 m2 b2 hl hk h16 hsz
  go_enter Tryz.func65, Tryz.ntmps65
  go_wp2_with (refine wpList_store_rowTo rfl 129 (.tmp 3) (.tmp 4) rfl rfl (w.heap.size + 1) #[.func (.func 95) #[] #[], .func (.func 96) #[] #[], .func (.func 97) #[] #[], .func (.func 98) #[] #[]] rfl rfl 129 #[.nilFunc, .nilFunc, .nilFunc, .nilFunc] M1.out (by kernel_rfl) rfl (by kernel_rfl) ?_)
  generalize ((w.alloc (.cells CS 51)).alloc (.cells #[.nilFunc, .nilFunc, .nilFunc, .nilFunc] 129)).setRow (w.heap.size + 1) #[.func (.func 95) #[] #[], .func (.func 96) #[] #[], .func (.func 97) #[] #[], .func (.func 98) #[] #[]] = W1 at *
  generalize hN : w.heap.size = N at *
  have HN := Lib.hid hN
  clear hN
  refine Segs.wp_region_segs Segs.Hist (List.replicate 18 false) Segs.Hist.refl Segs.Hist.trans (by kernel_rfl) (by kernel_rfl) (by kernel_rfl) ?_
  have K3 := Lib.hid (show Blk W1.drew N 51 CS from K2.out)
  have M3 := Lib.hid (show Blk W1.drew (N + 1) 129 _ from M2.out)
  have B3 := Lib.hid B2.out.drew
  have L3 := Lib.hid (HL.out.on (by rw [HN.out]; exact B3.out.1) (Nat.le_refl _))
  generalize W1.drew = W2 at *
  refine Segs.wpM_val (some 5) (.pointer (some ⟨N, 0, none⟩)) rfl (by kernel_rfl) (fun W h => by kernel_rfl) ?_
  simp only [Act.put, List.setIfInBounds_toArray, List.set_cons_zero, List.set_cons_succ]
  refine Segs.wpM_val (some 6) (.int .i64 K) rfl (by kernel_rfl) (fun W h => Segs.run_cell 48 (.tmp 5) rfl N 0 (by kernel_rfl) _ (isAggKind W) (by rw [(K3.out.below h).cell]; exact G0.out)) ?_
  simp only [Act.put, List.setIfInBounds_toArray, List.set_cons_zero, List.set_cons_succ]
  refine Segs.wpM_val (some 7) (.bool (decide ((0 : Int) ≤ K))) rfl (by kernel_rfl) (fun W h => by kernel_rfl) ?_
  rw [HD1.out]
  simp only [Act.put, List.setIfInBounds_toArray, List.set_cons_zero, List.set_cons_succ]
  refine Segs.wpM_val (some 8) (.bool true) rfl (by kernel_rfl) (fun W h => by kernel_rfl) ?_
  simp only [Act.put, List.setIfInBounds_toArray, List.set_cons_zero, List.set_cons_succ]
  refine Segs.wpM_val (some 9) (.pointer (some ⟨N, 0, none⟩)) rfl (by kernel_rfl) (fun W h => by kernel_rfl) ?_
  simp only [Act.put, List.setIfInBounds_toArray, List.set_cons_zero, List.set_cons_succ]
  refine Segs.wpM_val (some 10) (.int .i64 K) rfl (by kernel_rfl) (fun W h => Segs.run_cell 48 (.tmp 9) rfl N 0 (by kernel_rfl) _ (isAggKind W) (by rw [(K3.out.below h).cell]; exact G0.out)) ?_
  simp only [Act.put, List.setIfInBounds_toArray, List.set_cons_zero, List.set_cons_succ]
  refine Segs.wpM_val (some 11) (.bool (decide (K < (4 : Int)))) rfl (by kernel_rfl) (fun W h => by kernel_rfl) ?_
  rw [HD2.out]
  simp only [Act.put, List.setIfInBounds_toArray, List.set_cons_zero, List.set_cons_succ]
  refine Segs.wpM_val (some 12) (.bool false) rfl (by kernel_rfl) (fun W h => by kernel_rfl) ?_
  simp only [Act.put, List.setIfInBounds_toArray, List.set_cons_zero, List.set_cons_succ]
  refine Segs.wpM_val (some 13) (.bool false) rfl (by kernel_rfl) (fun W h => by kernel_rfl) ?_
  simp only [Act.put, List.setIfInBounds_toArray, List.set_cons_zero, List.set_cons_succ]
  refine Segs.wpM_not (some 14) rfl (by kernel_rfl) ?_
  simp only [Act.put, List.setIfInBounds_toArray, List.set_cons_zero, List.set_cons_succ]
  refine Segs.wpM_not (some 15) rfl (by kernel_rfl) ?_
  simp only [Act.put, List.setIfInBounds_toArray, List.set_cons_zero, List.set_cons_succ]
  refine Segs.wpM_not (some 16) rfl (by kernel_rfl) ?_
  simp only [Act.put, List.setIfInBounds_toArray, List.set_cons_zero, List.set_cons_succ]
  refine Segs.wpM_not (some 17) rfl (by kernel_rfl) ?_
  simp only [Act.put, List.setIfInBounds_toArray, List.set_cons_zero, List.set_cons_succ]
  refine Segs.wpM_not (some 18) rfl (by kernel_rfl) ?_
  simp only [Act.put, List.setIfInBounds_toArray, List.set_cons_zero, List.set_cons_succ]
  refine Segs.wpM_not (some 19) rfl (by kernel_rfl) ?_
  simp only [Act.put, List.setIfInBounds_toArray, List.set_cons_zero, List.set_cons_succ]
  refine Segs.wpM_not (some 20) rfl (by kernel_rfl) ?_
  simp only [Act.put, List.setIfInBounds_toArray, List.set_cons_zero, List.set_cons_succ]
  refine Segs.wpM_val (some 21) (.bool false) rfl (by kernel_rfl) (fun W h => by kernel_rfl) ?_
  simp only [Act.put, List.setIfInBounds_toArray, List.set_cons_zero, List.set_cons_succ]
  refine Segs.wpM_val (some 2) (.bool false) rfl (by kernel_rfl) (fun W h => by kernel_rfl) ?_
  simp only [Act.put, List.setIfInBounds_toArray, List.set_cons_zero, List.set_cons_succ]
  refine Segs.wpM_end (fun W6 h6 => ?_)
  have B6 := Lib.hid (B3.out.call h6)
  go_wp2_with fail
  go_ret
  exact ⟨rfl, by rw [HN.out]; exact B6.out.1⟩
theorem valid_all (n : Nd) (w : World) (h16 : n.refs.length = 16) (hsz : ∀ r ∈ rfs n, r.size < 32 → GetC r) (hl : Laid2 w) :
    Calls Tryz.prog 65 #[.agg (ndC n)] w fun e w' => e = .returned (.bool (validB n)) ∧ Below w.heap.size w w' := by
  by_cases h0 : n.kind = 0
  · exact valid_0 n w h0 h16 hsz hl
  by_cases h1 : n.kind = 1
  · exact valid_1 n w h1 h16 hsz hl
  by_cases h2 : n.kind = 2
  · exact valid_2 n w h2 h16 hsz hl
  by_cases h3 : n.kind = 3
  · exact valid_3 n w h3 h16 hsz hl
  by_cases h4 : n.kind < 0
  · exact valid_neg n w h4 h16 hsz hl
  · exact valid_big n w (by omega) h16 hsz hl
end Go.Proofs.YtfeonjiiijdibaaGreatDoor
namespace Go.Proofs.YtfeonjiiijdibaaGreatDoor
open Go.RowKit Go.Proofs.Nod
set_option linter.unusedVariables false
set_option linter.unusedSimpArgs false
theorem isAggFs (W : World) : (isAgg 118).run Tryz.prog W = .ok false W := by kernel_rfl
/-- What a node that may be is. -/
theorem valid_facts {n : Nd} (h : validB n = true) (h16 : n.refs.length = 16) : 0 ≤ n.kind ∧ n.kind ≤ 3 ∧ n.path.size ≤ 12 ∧ n.value.size ≤ 80 ∧ (n.kind = 1 ∨ n.kind = 2 → Nib.valid n.path.data.toList = true) := by
  by_cases h0 : n.kind = 0
  · rw [validB0 n h0] at h
    have := of_decide_eq_true h
    rw [this]
    exact ⟨by decide, by decide, by decide, by decide, fun k => by rcases k with k | k <;> cases k⟩
  by_cases h1 : n.kind = 1
  · rw [validB1 n h1] at h
    simp only [Bool.and_eq_true, decide_eq_true_eq] at h
    exact ⟨by omega, by omega, h.2.1, h.2.2.2.2, fun _ => h.2.2.1⟩
  by_cases h2 : n.kind = 2
  · rw [validB2 n h2 h16] at h
    unfold extB at h
    simp only [Bool.and_eq_true, decide_eq_true_eq] at h
    have hv : n.value = e0 := by rw [h.1]; rfl
    exact ⟨by omega, by omega, h.2.2.1, by rw [hv]; decide, fun _ => h.2.2.2.1⟩
  by_cases h3 : n.kind = 3
  · rw [validB3 n h3 h16] at h
    unfold branchB at h
    simp only [Bool.and_eq_true, decide_eq_true_eq] at h
    exact ⟨by omega, by omega, by rw [h.1]; decide, h.2.1, fun k => by omega⟩
  · rw [validB_no n (by omega)] at h
    cases h
theorem rfr_size {r : ByteArray} (h : (rfrB r).isSome = true) : r.size ≤ 33 := by
  unfold rfrB refersK at h
  by_cases hh : (hashB r).isSome = true
  · obtain ⟨x, hx⟩ := Option.isSome_iff_exists.1 hh
    unfold hashB at hx
    split at hx
    · next k => omega
    · cases hx
  · rw [if_neg hh] at h
    unfold inlineK at h
    split at h
    · cases h
    · omega
theorem valid_refs {n : Nd} (h : validB n = true) (h16 : n.refs.length = 16) : ∀ i, i < 16 → (rf n i).size ≤ 10000 := by
  intro i hi
  have hf := valid_facts h h16
  have hz : ∀ j, rf zeroN j = e0 := fun j => rf_zero j
  by_cases h0 : n.kind = 0
  · rw [validB0 n h0] at h
    rw [of_decide_eq_true h, hz]
    decide
  by_cases h1 : n.kind = 1
  · rw [validB1 n h1] at h
    simp only [Bool.and_eq_true, decide_eq_true_eq] at h
    have : rf n i = rf zeroN i := by rw [h.1]; rfl
    rw [this, hz]
    decide
  by_cases h2 : n.kind = 2
  · rw [validB2 n h2 h16] at h
    unfold extB at h
    simp only [Bool.and_eq_true, decide_eq_true_eq] at h
    rcases i with _ | i
    · have := rfr_size h.2.2.2.2.1; omega
    · have : rf n (i + 1) = e0 := by
        rw [h.1]
        unfold rf extN
        simp only [List.getD_eq_getElem?_getD, List.getElem?_cons_succ, List.getElem?_replicate]
        split <;> rfl
      rw [this]
      decide
  · rw [validB3 n (by omega) h16] at h
    unfold branchB at h
    simp only [Bool.and_eq_true, decide_eq_true_eq] at h
    by_cases he : rf n i = e0
    · rw [he]; decide
    · have := rfr_size (List.all_eq_true.1 h.2.2.1 (rf n i) (by rw [used_all]; exact List.mem_filter.2 ⟨rf_mem n i hi, by simpa using he⟩))
      omega
def putB (n : Nd) : ByteArray := if validB n = true then bytesB n else e0
set_option maxRecDepth 100000 in
set_option maxHeartbeats 1000000 in
theorem put_0 (n : Nd) (w : World) (hk : n.kind = 0) (h16 : n.refs.length = 16) (hok : validB n = true) (hr : ∀ i, i < 16 → (rf n i).size ≤ 10000)
    (hval : ∀ W, Laid2 W → Calls Tryz.prog 65 #[.agg (ndC n)] W fun e w' => e = .returned (.bool true) ∧ Below W.heap.size W w') (hl : Laid2 w) :
    Calls Tryz.prog 61 #[.agg (ndC n)] w fun e w' => e = .returned (.tuple #[.string (bytesB n), .int .i64 0]) ∧ Below w.heap.size w w' := by
  have hf := valid_facts hok h16
  have hcall : ∀ W, Calls Tryz.prog 89 #[.agg (ndC n)] W fun e w' => e = .returned (.string (bytesB n)) ∧ Below W.heap.size W w' := fun W => by
    have hb : bytesB n = textB e0 := by unfold bytesB; rw [if_neg (by omega), if_neg (by omega), if_neg (by omega)]
    rw [hb]; exact snone_any _ W
  have g0 : (ndC n)[0]? = some (.int .i64 0) := by show some (Value.int .i64 n.kind) = _; rw [hk]
  obtain ⟨CS, hCS⟩ : ∃ cs, cs = ndC n := ⟨_, rfl⟩
  have hcs : Ndc CS := by rw [hCS]; exact .of _
  rw [← hCS] at hcall hval g0 ⊢
  obtain ⟨B, hB⟩ : ∃ b, b = bytesB n := ⟨_, rfl⟩
  rw [← hB] at hcall ⊢
  have k0 := Blk.new w 51 CS
  have b0 := (Bl.start w).alloc (.cells CS 51)
  have l0 : Laid2 (w.alloc (.cells CS 51)) := hl.on b0.1 (Nat.le_refl _)
  have HVL := Lib.hid (hval _ l0)
  have HCS := Lib.hid hCS
  have NC := Lib.hid hcs
  have HC := Lib.hid hcall
  have G0 := Lib.hid g0
  have K0 := Lib.hid k0
  have B0 := Lib.hid b0
  clear hcall hval g0 hCS hcs hB k0 b0 l0 hl hk h16 hok hf hr
  go_enter Tryz.func61, Tryz.ntmps61
  go_wp2_with (refine wpList_load_nd rfl (some 5) rfl (.tmp 1) rfl w.heap.size rfl 51 CS K0.out NC.out ?_)
  refine HVL.out.mono ?_
  rintro e w1 ⟨rfl, hb1⟩
  have B1 := Lib.hid (B0.out.call hb1)
  have K1 := Lib.hid (K0.out.below hb1)
  clear hb1
  have M1 := Lib.hid (Blk.new w1 121 #[.nilFunc, .nilFunc, .nilFunc, .nilFunc])
  have hne : w.heap.size ≠ w1.heap.size := by have := K1.out.lt; omega
  have K2 := Lib.hid ((K1.out.alloc (.cells #[.nilFunc, .nilFunc, .nilFunc, .nilFunc] 121)).rowOther (g' := w1.heap.size) (cs := #[.func (.func 89) #[] #[], .func (.func 90) #[] #[], .func (.func 91) #[] #[], .func (.func 92) #[] #[]]) hne)
  have M2 := Lib.hid (M1.out.row (cs := #[.func (.func 89) #[] #[], .func (.func 90) #[] #[], .func (.func 91) #[] #[], .func (.func 92) #[] #[]]))
  have B2 := Lib.hid (Bl.setRow (B1.out.alloc (.cells #[.nilFunc, .nilFunc, .nilFunc, .nilFunc] 121)) (g := w1.heap.size) B1.out.2 #[.func (.func 89) #[] #[], .func (.func 90) #[] #[], .func (.func 91) #[] #[], .func (.func 92) #[] #[]])
  clear hne
  go_wp2_with (refine wpList_store_rowTo rfl 121 (.tmp 4) (.tmp 8) rfl rfl w1.heap.size #[.func (.func 89) #[] #[], .func (.func 90) #[] #[], .func (.func 91) #[] #[], .func (.func 92) #[] #[]] rfl rfl 121 #[.nilFunc, .nilFunc, .nilFunc, .nilFunc] M1.out (by kernel_rfl) rfl (by kernel_rfl) ?_)
  generalize (w1.alloc (.cells #[.nilFunc, .nilFunc, .nilFunc, .nilFunc] 121)).setRow w1.heap.size #[.func (.func 89) #[] #[], .func (.func 90) #[] #[], .func (.func 91) #[] #[], .func (.func 92) #[] #[]] = W1 at *
  generalize w1.heap.size = M at *
  generalize hN : w.heap.size = N at *
  have HN := Lib.hid hN
  clear hN
  refine Segs.wp_region_segs Segs.Hist (List.replicate 9 false) Segs.Hist.refl Segs.Hist.trans (by kernel_rfl) (by kernel_rfl) (by kernel_rfl) ?_
  have K3 := Lib.hid (show Blk W1.drew N 51 CS from K2.out)
  have M3 := Lib.hid (show Blk W1.drew M 121 _ from M2.out)
  have B3 := Lib.hid B2.out.drew
  generalize W1.drew = W2 at *
  refine Segs.wpM_val (some 9) (.pointer (some ⟨N, 0, none⟩)) rfl (by kernel_rfl) (fun W h => by kernel_rfl) ?_
  simp only [Act.put, List.setIfInBounds_toArray, List.set_cons_zero, List.set_cons_succ]
  refine Segs.wpM_val (some 10) (.int .i64 0) rfl (by kernel_rfl) (fun W h => Segs.run_cell 48 (.tmp 9) rfl N 0 (by kernel_rfl) _ (isAggKind W) (by rw [(K3.out.below h).cell]; exact G0.out)) ?_
  simp only [Act.put, List.setIfInBounds_toArray, List.set_cons_zero, List.set_cons_succ]
  refine Segs.wpM_val (some 11) (.pointer (some ⟨M, 0, none⟩)) rfl (by kernel_rfl) (fun W h => by kernel_rfl) ?_
  simp only [Act.put, List.setIfInBounds_toArray, List.set_cons_zero, List.set_cons_succ]
  refine Segs.wpM_val (some 12) (.func (.func 89) #[] #[]) rfl (by kernel_rfl) (fun W h => Segs.run_cell 118 (.tmp 11) rfl M 0 (by kernel_rfl) _ (isAggFs W) (by rw [(M3.out.below h).cell]; rfl)) ?_
  simp only [Act.put, List.setIfInBounds_toArray, List.set_cons_zero, List.set_cons_succ]
  refine Segs.wpM_val (some 13) (.agg CS) rfl (by kernel_rfl) (fun W h => Segs.run_row 51 (.tmp 1) rfl N (by kernel_rfl) 51 CS _ (K3.out.below h) Tryz.underlying51 rfl (info19 NC.out.size)) ?_
  simp only [Act.put, List.setIfInBounds_toArray, List.set_cons_zero, List.set_cons_succ]
  refine Segs.wpM_val (some 14) (.agg CS) rfl (by kernel_rfl) (fun W h => Segs.run_built 120 _ rfl CS (built_shape_of n HCS.out (by kernel_rfl))) ?_
  simp only [Act.put, List.setIfInBounds_toArray, List.set_cons_zero, List.set_cons_succ]
  refine Segs.wpM_call (some 15) 89 #[.agg CS] (.string B) rfl (by kernel_rfl) (fun W => by kernel_rfl) (fun W h => HC.out W) ?_
  simp only [Act.put, List.setIfInBounds_toArray, List.set_cons_zero, List.set_cons_succ]
  refine Segs.wpM_val (some 2) (.string B) rfl (by kernel_rfl) (fun W h => by kernel_rfl) ?_
  simp only [Act.put, List.setIfInBounds_toArray, List.set_cons_zero, List.set_cons_succ]
  refine Segs.wpM_val (some 3) (.int .i64 0) rfl (by kernel_rfl) (fun W h => by kernel_rfl) ?_
  simp only [Act.put, List.setIfInBounds_toArray, List.set_cons_zero, List.set_cons_succ]
  refine Segs.wpM_end (fun W6 h6 => ?_)
  have B6 := Lib.hid (B3.out.call h6)
  go_wp2_with fail
  go_ret2
  exact ⟨rfl, by rw [HN.out]; exact B6.out.1⟩
set_option maxRecDepth 100000 in
set_option maxHeartbeats 1000000 in
theorem put_1 (n : Nd) (w : World) (hk : n.kind = 1) (h16 : n.refs.length = 16) (hok : validB n = true) (hr : ∀ i, i < 16 → (rf n i).size ≤ 10000)
    (hval : ∀ W, Laid2 W → Calls Tryz.prog 65 #[.agg (ndC n)] W fun e w' => e = .returned (.bool true) ∧ Below W.heap.size W w') (hl : Laid2 w) :
    Calls Tryz.prog 61 #[.agg (ndC n)] w fun e w' => e = .returned (.tuple #[.string (bytesB n), .int .i64 0]) ∧ Below w.heap.size w w' := by
  have hf := valid_facts hok h16
  have hcall : ∀ W, Calls Tryz.prog 90 #[.agg (ndC n)] W fun e w' => e = .returned (.string (bytesB n)) ∧ Below W.heap.size W w' := fun W => sleaf_any n W hk (hf.2.2.2.2 (.inl hk)) (by omega) (by omega)
  have g0 : (ndC n)[0]? = some (.int .i64 1) := by show some (Value.int .i64 n.kind) = _; rw [hk]
  obtain ⟨CS, hCS⟩ : ∃ cs, cs = ndC n := ⟨_, rfl⟩
  have hcs : Ndc CS := by rw [hCS]; exact .of _
  rw [← hCS] at hcall hval g0 ⊢
  obtain ⟨B, hB⟩ : ∃ b, b = bytesB n := ⟨_, rfl⟩
  rw [← hB] at hcall ⊢
  have k0 := Blk.new w 51 CS
  have b0 := (Bl.start w).alloc (.cells CS 51)
  have l0 : Laid2 (w.alloc (.cells CS 51)) := hl.on b0.1 (Nat.le_refl _)
  have HVL := Lib.hid (hval _ l0)
  have HCS := Lib.hid hCS
  have NC := Lib.hid hcs
  have HC := Lib.hid hcall
  have G0 := Lib.hid g0
  have K0 := Lib.hid k0
  have B0 := Lib.hid b0
  clear hcall hval g0 hCS hcs hB k0 b0 l0 hl hk h16 hok hf hr
  go_enter Tryz.func61, Tryz.ntmps61
  go_wp2_with (refine wpList_load_nd rfl (some 5) rfl (.tmp 1) rfl w.heap.size rfl 51 CS K0.out NC.out ?_)
  refine HVL.out.mono ?_
  rintro e w1 ⟨rfl, hb1⟩
  have B1 := Lib.hid (B0.out.call hb1)
  have K1 := Lib.hid (K0.out.below hb1)
  clear hb1
  have M1 := Lib.hid (Blk.new w1 121 #[.nilFunc, .nilFunc, .nilFunc, .nilFunc])
  have hne : w.heap.size ≠ w1.heap.size := by have := K1.out.lt; omega
  have K2 := Lib.hid ((K1.out.alloc (.cells #[.nilFunc, .nilFunc, .nilFunc, .nilFunc] 121)).rowOther (g' := w1.heap.size) (cs := #[.func (.func 89) #[] #[], .func (.func 90) #[] #[], .func (.func 91) #[] #[], .func (.func 92) #[] #[]]) hne)
  have M2 := Lib.hid (M1.out.row (cs := #[.func (.func 89) #[] #[], .func (.func 90) #[] #[], .func (.func 91) #[] #[], .func (.func 92) #[] #[]]))
  have B2 := Lib.hid (Bl.setRow (B1.out.alloc (.cells #[.nilFunc, .nilFunc, .nilFunc, .nilFunc] 121)) (g := w1.heap.size) B1.out.2 #[.func (.func 89) #[] #[], .func (.func 90) #[] #[], .func (.func 91) #[] #[], .func (.func 92) #[] #[]])
  clear hne
  go_wp2_with (refine wpList_store_rowTo rfl 121 (.tmp 4) (.tmp 8) rfl rfl w1.heap.size #[.func (.func 89) #[] #[], .func (.func 90) #[] #[], .func (.func 91) #[] #[], .func (.func 92) #[] #[]] rfl rfl 121 #[.nilFunc, .nilFunc, .nilFunc, .nilFunc] M1.out (by kernel_rfl) rfl (by kernel_rfl) ?_)
  generalize (w1.alloc (.cells #[.nilFunc, .nilFunc, .nilFunc, .nilFunc] 121)).setRow w1.heap.size #[.func (.func 89) #[] #[], .func (.func 90) #[] #[], .func (.func 91) #[] #[], .func (.func 92) #[] #[]] = W1 at *
  generalize w1.heap.size = M at *
  generalize hN : w.heap.size = N at *
  have HN := Lib.hid hN
  clear hN
  refine Segs.wp_region_segs Segs.Hist (List.replicate 9 false) Segs.Hist.refl Segs.Hist.trans (by kernel_rfl) (by kernel_rfl) (by kernel_rfl) ?_
  have K3 := Lib.hid (show Blk W1.drew N 51 CS from K2.out)
  have M3 := Lib.hid (show Blk W1.drew M 121 _ from M2.out)
  have B3 := Lib.hid B2.out.drew
  generalize W1.drew = W2 at *
  refine Segs.wpM_val (some 9) (.pointer (some ⟨N, 0, none⟩)) rfl (by kernel_rfl) (fun W h => by kernel_rfl) ?_
  simp only [Act.put, List.setIfInBounds_toArray, List.set_cons_zero, List.set_cons_succ]
  refine Segs.wpM_val (some 10) (.int .i64 1) rfl (by kernel_rfl) (fun W h => Segs.run_cell 48 (.tmp 9) rfl N 0 (by kernel_rfl) _ (isAggKind W) (by rw [(K3.out.below h).cell]; exact G0.out)) ?_
  simp only [Act.put, List.setIfInBounds_toArray, List.set_cons_zero, List.set_cons_succ]
  refine Segs.wpM_val (some 11) (.pointer (some ⟨M, 1, none⟩)) rfl (by kernel_rfl) (fun W h => by kernel_rfl) ?_
  simp only [Act.put, List.setIfInBounds_toArray, List.set_cons_zero, List.set_cons_succ]
  refine Segs.wpM_val (some 12) (.func (.func 90) #[] #[]) rfl (by kernel_rfl) (fun W h => Segs.run_cell 118 (.tmp 11) rfl M 1 (by kernel_rfl) _ (isAggFs W) (by rw [(M3.out.below h).cell]; rfl)) ?_
  simp only [Act.put, List.setIfInBounds_toArray, List.set_cons_zero, List.set_cons_succ]
  refine Segs.wpM_val (some 13) (.agg CS) rfl (by kernel_rfl) (fun W h => Segs.run_row 51 (.tmp 1) rfl N (by kernel_rfl) 51 CS _ (K3.out.below h) Tryz.underlying51 rfl (info19 NC.out.size)) ?_
  simp only [Act.put, List.setIfInBounds_toArray, List.set_cons_zero, List.set_cons_succ]
  refine Segs.wpM_val (some 14) (.agg CS) rfl (by kernel_rfl) (fun W h => Segs.run_built 120 _ rfl CS (built_shape_of n HCS.out (by kernel_rfl))) ?_
  simp only [Act.put, List.setIfInBounds_toArray, List.set_cons_zero, List.set_cons_succ]
  refine Segs.wpM_call (some 15) 90 #[.agg CS] (.string B) rfl (by kernel_rfl) (fun W => by kernel_rfl) (fun W h => HC.out W) ?_
  simp only [Act.put, List.setIfInBounds_toArray, List.set_cons_zero, List.set_cons_succ]
  refine Segs.wpM_val (some 2) (.string B) rfl (by kernel_rfl) (fun W h => by kernel_rfl) ?_
  simp only [Act.put, List.setIfInBounds_toArray, List.set_cons_zero, List.set_cons_succ]
  refine Segs.wpM_val (some 3) (.int .i64 0) rfl (by kernel_rfl) (fun W h => by kernel_rfl) ?_
  simp only [Act.put, List.setIfInBounds_toArray, List.set_cons_zero, List.set_cons_succ]
  refine Segs.wpM_end (fun W6 h6 => ?_)
  have B6 := Lib.hid (B3.out.call h6)
  go_wp2_with fail
  go_ret2
  exact ⟨rfl, by rw [HN.out]; exact B6.out.1⟩
set_option maxRecDepth 100000 in
set_option maxHeartbeats 1000000 in
theorem put_2 (n : Nd) (w : World) (hk : n.kind = 2) (h16 : n.refs.length = 16) (hok : validB n = true) (hr : ∀ i, i < 16 → (rf n i).size ≤ 10000)
    (hval : ∀ W, Laid2 W → Calls Tryz.prog 65 #[.agg (ndC n)] W fun e w' => e = .returned (.bool true) ∧ Below W.heap.size W w') (hl : Laid2 w) :
    Calls Tryz.prog 61 #[.agg (ndC n)] w fun e w' => e = .returned (.tuple #[.string (bytesB n), .int .i64 0]) ∧ Below w.heap.size w w' := by
  have hf := valid_facts hok h16
  have hcall : ∀ W, Calls Tryz.prog 91 #[.agg (ndC n)] W fun e w' => e = .returned (.string (bytesB n)) ∧ Below W.heap.size W w' := fun W => sext_any n W hk (hf.2.2.2.2 (.inr hk)) (by omega) (Nat.le_trans (hr 0 (by decide)) (by decide))
  have g0 : (ndC n)[0]? = some (.int .i64 2) := by show some (Value.int .i64 n.kind) = _; rw [hk]
  obtain ⟨CS, hCS⟩ : ∃ cs, cs = ndC n := ⟨_, rfl⟩
  have hcs : Ndc CS := by rw [hCS]; exact .of _
  rw [← hCS] at hcall hval g0 ⊢
  obtain ⟨B, hB⟩ : ∃ b, b = bytesB n := ⟨_, rfl⟩
  rw [← hB] at hcall ⊢
  have k0 := Blk.new w 51 CS
  have b0 := (Bl.start w).alloc (.cells CS 51)
  have l0 : Laid2 (w.alloc (.cells CS 51)) := hl.on b0.1 (Nat.le_refl _)
  have HVL := Lib.hid (hval _ l0)
  have HCS := Lib.hid hCS
  have NC := Lib.hid hcs
  have HC := Lib.hid hcall
  have G0 := Lib.hid g0
  have K0 := Lib.hid k0
  have B0 := Lib.hid b0
  clear hcall hval g0 hCS hcs hB k0 b0 l0 hl hk h16 hok hf hr
  go_enter Tryz.func61, Tryz.ntmps61
  go_wp2_with (refine wpList_load_nd rfl (some 5) rfl (.tmp 1) rfl w.heap.size rfl 51 CS K0.out NC.out ?_)
  refine HVL.out.mono ?_
  rintro e w1 ⟨rfl, hb1⟩
  have B1 := Lib.hid (B0.out.call hb1)
  have K1 := Lib.hid (K0.out.below hb1)
  clear hb1
  have M1 := Lib.hid (Blk.new w1 121 #[.nilFunc, .nilFunc, .nilFunc, .nilFunc])
  have hne : w.heap.size ≠ w1.heap.size := by have := K1.out.lt; omega
  have K2 := Lib.hid ((K1.out.alloc (.cells #[.nilFunc, .nilFunc, .nilFunc, .nilFunc] 121)).rowOther (g' := w1.heap.size) (cs := #[.func (.func 89) #[] #[], .func (.func 90) #[] #[], .func (.func 91) #[] #[], .func (.func 92) #[] #[]]) hne)
  have M2 := Lib.hid (M1.out.row (cs := #[.func (.func 89) #[] #[], .func (.func 90) #[] #[], .func (.func 91) #[] #[], .func (.func 92) #[] #[]]))
  have B2 := Lib.hid (Bl.setRow (B1.out.alloc (.cells #[.nilFunc, .nilFunc, .nilFunc, .nilFunc] 121)) (g := w1.heap.size) B1.out.2 #[.func (.func 89) #[] #[], .func (.func 90) #[] #[], .func (.func 91) #[] #[], .func (.func 92) #[] #[]])
  clear hne
  go_wp2_with (refine wpList_store_rowTo rfl 121 (.tmp 4) (.tmp 8) rfl rfl w1.heap.size #[.func (.func 89) #[] #[], .func (.func 90) #[] #[], .func (.func 91) #[] #[], .func (.func 92) #[] #[]] rfl rfl 121 #[.nilFunc, .nilFunc, .nilFunc, .nilFunc] M1.out (by kernel_rfl) rfl (by kernel_rfl) ?_)
  generalize (w1.alloc (.cells #[.nilFunc, .nilFunc, .nilFunc, .nilFunc] 121)).setRow w1.heap.size #[.func (.func 89) #[] #[], .func (.func 90) #[] #[], .func (.func 91) #[] #[], .func (.func 92) #[] #[]] = W1 at *
  generalize w1.heap.size = M at *
  generalize hN : w.heap.size = N at *
  have HN := Lib.hid hN
  clear hN
  refine Segs.wp_region_segs Segs.Hist (List.replicate 9 false) Segs.Hist.refl Segs.Hist.trans (by kernel_rfl) (by kernel_rfl) (by kernel_rfl) ?_
  have K3 := Lib.hid (show Blk W1.drew N 51 CS from K2.out)
  have M3 := Lib.hid (show Blk W1.drew M 121 _ from M2.out)
  have B3 := Lib.hid B2.out.drew
  generalize W1.drew = W2 at *
  refine Segs.wpM_val (some 9) (.pointer (some ⟨N, 0, none⟩)) rfl (by kernel_rfl) (fun W h => by kernel_rfl) ?_
  simp only [Act.put, List.setIfInBounds_toArray, List.set_cons_zero, List.set_cons_succ]
  refine Segs.wpM_val (some 10) (.int .i64 2) rfl (by kernel_rfl) (fun W h => Segs.run_cell 48 (.tmp 9) rfl N 0 (by kernel_rfl) _ (isAggKind W) (by rw [(K3.out.below h).cell]; exact G0.out)) ?_
  simp only [Act.put, List.setIfInBounds_toArray, List.set_cons_zero, List.set_cons_succ]
  refine Segs.wpM_val (some 11) (.pointer (some ⟨M, 2, none⟩)) rfl (by kernel_rfl) (fun W h => by kernel_rfl) ?_
  simp only [Act.put, List.setIfInBounds_toArray, List.set_cons_zero, List.set_cons_succ]
  refine Segs.wpM_val (some 12) (.func (.func 91) #[] #[]) rfl (by kernel_rfl) (fun W h => Segs.run_cell 118 (.tmp 11) rfl M 2 (by kernel_rfl) _ (isAggFs W) (by rw [(M3.out.below h).cell]; rfl)) ?_
  simp only [Act.put, List.setIfInBounds_toArray, List.set_cons_zero, List.set_cons_succ]
  refine Segs.wpM_val (some 13) (.agg CS) rfl (by kernel_rfl) (fun W h => Segs.run_row 51 (.tmp 1) rfl N (by kernel_rfl) 51 CS _ (K3.out.below h) Tryz.underlying51 rfl (info19 NC.out.size)) ?_
  simp only [Act.put, List.setIfInBounds_toArray, List.set_cons_zero, List.set_cons_succ]
  refine Segs.wpM_val (some 14) (.agg CS) rfl (by kernel_rfl) (fun W h => Segs.run_built 120 _ rfl CS (built_shape_of n HCS.out (by kernel_rfl))) ?_
  simp only [Act.put, List.setIfInBounds_toArray, List.set_cons_zero, List.set_cons_succ]
  refine Segs.wpM_call (some 15) 91 #[.agg CS] (.string B) rfl (by kernel_rfl) (fun W => by kernel_rfl) (fun W h => HC.out W) ?_
  simp only [Act.put, List.setIfInBounds_toArray, List.set_cons_zero, List.set_cons_succ]
  refine Segs.wpM_val (some 2) (.string B) rfl (by kernel_rfl) (fun W h => by kernel_rfl) ?_
  simp only [Act.put, List.setIfInBounds_toArray, List.set_cons_zero, List.set_cons_succ]
  refine Segs.wpM_val (some 3) (.int .i64 0) rfl (by kernel_rfl) (fun W h => by kernel_rfl) ?_
  simp only [Act.put, List.setIfInBounds_toArray, List.set_cons_zero, List.set_cons_succ]
  refine Segs.wpM_end (fun W6 h6 => ?_)
  have B6 := Lib.hid (B3.out.call h6)
  go_wp2_with fail
  go_ret2
  exact ⟨rfl, by rw [HN.out]; exact B6.out.1⟩
set_option maxRecDepth 100000 in
set_option maxHeartbeats 1000000 in
theorem put_3 (n : Nd) (w : World) (hk : n.kind = 3) (h16 : n.refs.length = 16) (hok : validB n = true) (hr : ∀ i, i < 16 → (rf n i).size ≤ 10000)
    (hval : ∀ W, Laid2 W → Calls Tryz.prog 65 #[.agg (ndC n)] W fun e w' => e = .returned (.bool true) ∧ Below W.heap.size W w') (hl : Laid2 w) :
    Calls Tryz.prog 61 #[.agg (ndC n)] w fun e w' => e = .returned (.tuple #[.string (bytesB n), .int .i64 0]) ∧ Below w.heap.size w w' := by
  have hf := valid_facts hok h16
  have hcall : ∀ W, Calls Tryz.prog 92 #[.agg (ndC n)] W fun e w' => e = .returned (.string (bytesB n)) ∧ Below W.heap.size W w' := fun W => sbranch_any n W hk h16 (fun i hi => hr i hi) (by omega)
  have g0 : (ndC n)[0]? = some (.int .i64 3) := by show some (Value.int .i64 n.kind) = _; rw [hk]
  obtain ⟨CS, hCS⟩ : ∃ cs, cs = ndC n := ⟨_, rfl⟩
  have hcs : Ndc CS := by rw [hCS]; exact .of _
  rw [← hCS] at hcall hval g0 ⊢
  obtain ⟨B, hB⟩ : ∃ b, b = bytesB n := ⟨_, rfl⟩
  rw [← hB] at hcall ⊢
  have k0 := Blk.new w 51 CS
  have b0 := (Bl.start w).alloc (.cells CS 51)
  have l0 : Laid2 (w.alloc (.cells CS 51)) := hl.on b0.1 (Nat.le_refl _)
  have HVL := Lib.hid (hval _ l0)
  have HCS := Lib.hid hCS
  have NC := Lib.hid hcs
  have HC := Lib.hid hcall
  have G0 := Lib.hid g0
  have K0 := Lib.hid k0
  have B0 := Lib.hid b0
  clear hcall hval g0 hCS hcs hB k0 b0 l0 hl hk h16 hok hf hr
  go_enter Tryz.func61, Tryz.ntmps61
  go_wp2_with (refine wpList_load_nd rfl (some 5) rfl (.tmp 1) rfl w.heap.size rfl 51 CS K0.out NC.out ?_)
  refine HVL.out.mono ?_
  rintro e w1 ⟨rfl, hb1⟩
  have B1 := Lib.hid (B0.out.call hb1)
  have K1 := Lib.hid (K0.out.below hb1)
  clear hb1
  have M1 := Lib.hid (Blk.new w1 121 #[.nilFunc, .nilFunc, .nilFunc, .nilFunc])
  have hne : w.heap.size ≠ w1.heap.size := by have := K1.out.lt; omega
  have K2 := Lib.hid ((K1.out.alloc (.cells #[.nilFunc, .nilFunc, .nilFunc, .nilFunc] 121)).rowOther (g' := w1.heap.size) (cs := #[.func (.func 89) #[] #[], .func (.func 90) #[] #[], .func (.func 91) #[] #[], .func (.func 92) #[] #[]]) hne)
  have M2 := Lib.hid (M1.out.row (cs := #[.func (.func 89) #[] #[], .func (.func 90) #[] #[], .func (.func 91) #[] #[], .func (.func 92) #[] #[]]))
  have B2 := Lib.hid (Bl.setRow (B1.out.alloc (.cells #[.nilFunc, .nilFunc, .nilFunc, .nilFunc] 121)) (g := w1.heap.size) B1.out.2 #[.func (.func 89) #[] #[], .func (.func 90) #[] #[], .func (.func 91) #[] #[], .func (.func 92) #[] #[]])
  clear hne
  go_wp2_with (refine wpList_store_rowTo rfl 121 (.tmp 4) (.tmp 8) rfl rfl w1.heap.size #[.func (.func 89) #[] #[], .func (.func 90) #[] #[], .func (.func 91) #[] #[], .func (.func 92) #[] #[]] rfl rfl 121 #[.nilFunc, .nilFunc, .nilFunc, .nilFunc] M1.out (by kernel_rfl) rfl (by kernel_rfl) ?_)
  generalize (w1.alloc (.cells #[.nilFunc, .nilFunc, .nilFunc, .nilFunc] 121)).setRow w1.heap.size #[.func (.func 89) #[] #[], .func (.func 90) #[] #[], .func (.func 91) #[] #[], .func (.func 92) #[] #[]] = W1 at *
  generalize w1.heap.size = M at *
  generalize hN : w.heap.size = N at *
  have HN := Lib.hid hN
  clear hN
  refine Segs.wp_region_segs Segs.Hist (List.replicate 9 false) Segs.Hist.refl Segs.Hist.trans (by kernel_rfl) (by kernel_rfl) (by kernel_rfl) ?_
  have K3 := Lib.hid (show Blk W1.drew N 51 CS from K2.out)
  have M3 := Lib.hid (show Blk W1.drew M 121 _ from M2.out)
  have B3 := Lib.hid B2.out.drew
  generalize W1.drew = W2 at *
  refine Segs.wpM_val (some 9) (.pointer (some ⟨N, 0, none⟩)) rfl (by kernel_rfl) (fun W h => by kernel_rfl) ?_
  simp only [Act.put, List.setIfInBounds_toArray, List.set_cons_zero, List.set_cons_succ]
  refine Segs.wpM_val (some 10) (.int .i64 3) rfl (by kernel_rfl) (fun W h => Segs.run_cell 48 (.tmp 9) rfl N 0 (by kernel_rfl) _ (isAggKind W) (by rw [(K3.out.below h).cell]; exact G0.out)) ?_
  simp only [Act.put, List.setIfInBounds_toArray, List.set_cons_zero, List.set_cons_succ]
  refine Segs.wpM_val (some 11) (.pointer (some ⟨M, 3, none⟩)) rfl (by kernel_rfl) (fun W h => by kernel_rfl) ?_
  simp only [Act.put, List.setIfInBounds_toArray, List.set_cons_zero, List.set_cons_succ]
  refine Segs.wpM_val (some 12) (.func (.func 92) #[] #[]) rfl (by kernel_rfl) (fun W h => Segs.run_cell 118 (.tmp 11) rfl M 3 (by kernel_rfl) _ (isAggFs W) (by rw [(M3.out.below h).cell]; rfl)) ?_
  simp only [Act.put, List.setIfInBounds_toArray, List.set_cons_zero, List.set_cons_succ]
  refine Segs.wpM_val (some 13) (.agg CS) rfl (by kernel_rfl) (fun W h => Segs.run_row 51 (.tmp 1) rfl N (by kernel_rfl) 51 CS _ (K3.out.below h) Tryz.underlying51 rfl (info19 NC.out.size)) ?_
  simp only [Act.put, List.setIfInBounds_toArray, List.set_cons_zero, List.set_cons_succ]
  refine Segs.wpM_val (some 14) (.agg CS) rfl (by kernel_rfl) (fun W h => Segs.run_built 120 _ rfl CS (built_shape_of n HCS.out (by kernel_rfl))) ?_
  simp only [Act.put, List.setIfInBounds_toArray, List.set_cons_zero, List.set_cons_succ]
  refine Segs.wpM_call (some 15) 92 #[.agg CS] (.string B) rfl (by kernel_rfl) (fun W => by kernel_rfl) (fun W h => HC.out W) ?_
  simp only [Act.put, List.setIfInBounds_toArray, List.set_cons_zero, List.set_cons_succ]
  refine Segs.wpM_val (some 2) (.string B) rfl (by kernel_rfl) (fun W h => by kernel_rfl) ?_
  simp only [Act.put, List.setIfInBounds_toArray, List.set_cons_zero, List.set_cons_succ]
  refine Segs.wpM_val (some 3) (.int .i64 0) rfl (by kernel_rfl) (fun W h => by kernel_rfl) ?_
  simp only [Act.put, List.setIfInBounds_toArray, List.set_cons_zero, List.set_cons_succ]
  refine Segs.wpM_end (fun W6 h6 => ?_)
  have B6 := Lib.hid (B3.out.call h6)
  go_wp2_with fail
  go_ret2
  exact ⟨rfl, by rw [HN.out]; exact B6.out.1⟩
set_option maxRecDepth 100000 in
set_option maxHeartbeats 1000000 in
theorem put_not (n : Nd) (w : World) (hval : ∀ W, Laid2 W → Calls Tryz.prog 65 #[.agg (ndC n)] W fun e w' => e = .returned (.bool false) ∧ Below W.heap.size W w') (hl : Laid2 w) :
    Calls Tryz.prog 61 #[.agg (ndC n)] w fun e w' => e = .returned (.tuple #[.string e0, .int .i64 1]) ∧ Below w.heap.size w w' := by
  obtain ⟨CS, hCS⟩ : ∃ cs, cs = ndC n := ⟨_, rfl⟩
  have hcs : Ndc CS := by rw [hCS]; exact .of _
  rw [← hCS] at hval ⊢
  have k0 := Blk.new w 51 CS
  have b0 := (Bl.start w).alloc (.cells CS 51)
  have l0 : Laid2 (w.alloc (.cells CS 51)) := hl.on b0.1 (Nat.le_refl _)
  have HVL := Lib.hid (hval _ l0)
  have NC := Lib.hid hcs
  have K0 := Lib.hid k0
  have B0 := Lib.hid b0
  clear hval hCS hcs k0 b0 l0 hl
  go_enter Tryz.func61, Tryz.ntmps61
  go_wp2_with (refine wpList_load_nd rfl (some 5) rfl (.tmp 1) rfl w.heap.size rfl 51 CS K0.out NC.out ?_)
  refine HVL.out.mono ?_
  rintro e w1 ⟨rfl, hb1⟩
  have B1 := Lib.hid (B0.out.call hb1)
  clear hb1
  go_wp2_with fail
  go_ret2
  exact ⟨rfl, B1.out.1⟩
/-- What Put hands back. -/
def Ptd (n : Nd) (w : World) (e : Ending) (w' : World) : Prop :=
  e = .returned (.tuple #[.string (putB n), .int .i64 (if validB n = true then 0 else 1)]) ∧ Below w.heap.size w w'
theorem put_all (n : Nd) (w : World) (h16 : n.refs.length = 16) (hsz : ∀ r ∈ rfs n, r.size < 32 → GetC r) (hl : Laid2 w) :
    Calls Tryz.prog 61 #[.agg (ndC n)] w (Ptd n w) := by
  have hval := fun W (h : Laid2 W) => valid_all n W h16 hsz h
  unfold Ptd putB
  by_cases hok : validB n = true
  · rw [if_pos hok, if_pos hok]
    rw [hok] at hval
    have hf := valid_facts hok h16
    have hr := valid_refs hok h16
    by_cases h0 : n.kind = 0
    · exact put_0 n w h0 h16 hok hr hval hl
    by_cases h1 : n.kind = 1
    · exact put_1 n w h1 h16 hok hr hval hl
    by_cases h2 : n.kind = 2
    · exact put_2 n w h2 h16 hok hr hval hl
    · exact put_3 n w (by omega) h16 hok hr hval hl
  · rw [if_neg hok, if_neg hok]
    have : validB n = false := by simpa using hok
    rw [this] at hval
    exact put_not n w hval hl
end Go.Proofs.YtfeonjiiijdibaaGreatDoor
namespace Go.Proofs.Nib
theorem getN_le : ∀ (l : List UInt8) (q : List UInt8) (b : Bool), getN l = some (q, b) → q.length ≤ l.length := by
  intro l q b h
  rcases l with _ | ⟨a, r⟩
  · simp [getN] at h
  · rw [getN.eq_def] at h
    simp only at h
    by_cases h3 : a = 3
    · rw [if_pos h3] at h; cases h; simp
    · rw [if_neg h3] at h
      by_cases h1 : a = 1
      · rw [if_pos h1] at h; cases h; simp
      · rw [if_neg h1] at h
        rcases r with _ | ⟨c, t⟩
        · simp at h
        · simp only at h
          split at h
          · cases h; simp; omega
          · split at h
            · cases h; simp; omega
            · cases h
end Go.Proofs.Nib
namespace Go.Proofs.YtfeonjiiijdibaaGreatDoor
open Go.RowKit Go.Proofs.Nod
set_option linter.unusedVariables false
set_option linter.unusedSimpArgs false
theorem split_le {s b : ByteArray} {l : Bool} (h : splitB s = some (l, b)) : b.size ≤ s.size := by
  unfold splitB at h
  split at h
  · cases h
  · simp only [Option.some.injEq, Prod.mk.injEq] at h
    obtain ⟨_, rfl⟩ := h
    exact extract_le _ _ _
theorem readText_le {x v : ByteArray} (h : readText x = some v) : v.size ≤ x.size := by
  unfold readText at h
  split at h
  · next b hb => cases h; exact split_le hb
  · cases h
/-- What is read is no longer than what it is read of. -/
theorem read_facts {s : ByteArray} {n : Nd} (h : readB itemsB s = some n) : n.refs.length = 16 ∧ n.path.size ≤ 2 * s.size ∧ n.value.size ≤ s.size := by
  unfold readB at h
  split at h
  · cases h
  · cases h
    exact ⟨rfl, Nat.zero_le _, Nat.zero_le _⟩
  · next b hs =>
    have hb := split_le hs
    split at h
    · cases h
    · next l hl =>
      have hx := items_size hl
      unfold readItems at h
      split at h
      · next p x =>
        have hp := hx p (by simp)
        have hx2 := hx x (by simp)
        split at h
        · cases h
        · next f hf =>
          have h1 := readText_le hf
          split at h
          · cases h
          · next q hq =>
            obtain ⟨v, hv, rfl⟩ := Option.map_eq_some_iff.1 h
            have h2 := readText_le hv
            have h3 := Nib.getN_le _ _ _ hq
            rw [Nib.path_length] at h3
            refine ⟨rfl, ?_, ?_⟩
            · show (Nib.bs q).size ≤ _
              rw [Nib.bs_size]; simp at h3; omega
            · show v.size ≤ _
              omega
          · next q hq =>
            cases h
            have h3 := Nib.getN_le _ _ _ hq
            rw [Nib.path_length] at h3
            refine ⟨rfl, ?_, Nat.zero_le _⟩
            show (Nib.bs q).size ≤ _
            rw [Nib.bs_size]; simp at h3; omega
      · split at h
        · next h17 =>
          obtain ⟨v, hv, rfl⟩ := Option.map_eq_some_iff.1 h
          have h2 := readText_le hv
          have h4 : l.getLastD e0 ∈ l := by
            rcases l with _ | ⟨a, r⟩
            · simp at h17
            · rw [List.getLastD_cons]
              exact List.getLastD_mem_cons
          have h5 := hx _ h4
          refine ⟨?_, Nat.zero_le _, ?_⟩
          · simp [h17]
          · show v.size ≤ _
            omega
        · cases h
set_option maxRecDepth 100000 in
set_option maxHeartbeats 2000000 in
theorem get_step (s : ByteArray) (hs : s.size ≤ 10000) (ih : ∀ r, r.size < s.size → r.size < 32 → GetC r) : GetC s := by
  intro w hl
  obtain ⟨Z0, hZ0⟩ : ∃ z, z = ndC zeroN := ⟨_, rfl⟩
  have hz0 : Ndc Z0 := by rw [hZ0]; exact .of _
  have k0 := Blk.new w 51 Z0
  have b0 : Bl w.heap.size w (w.alloc (.cells Z0 51)) := (Bl.start w).alloc _
  have l0 : Laid2 (w.alloc (.cells Z0 51)) := hl.on b0.1 (Nat.le_refl _)
  have hrd := read_any s (w.alloc (.cells Z0 51)) (by omega) l0
  unfold Rnd at hrd
  unfold Gtd
  obtain ⟨O, hO⟩ : ∃ o, o = gB s := ⟨_, rfl⟩
  have hg : gB s = getK itemsB gB s := getB_eq s
  rw [← hO]
  rcases hR : readB itemsB s with _ | n
  · have hn : O = none := by rw [hO, hg]; unfold getK; rw [hR]
    subst hn
    rw [hR] at hrd
    have HRD := Lib.hid hrd
    have HZ := Lib.hid hZ0
    have NZ := Lib.hid hz0
    have K0 := Lib.hid k0
    have B0 := Lib.hid b0
    clear hZ0 hz0 k0 b0 hO hl l0 hrd ih hg hR hs
    go_enter Tryz.func33, Tryz.ntmps33
    go_wp2_with (refine wpList_alloc_nd rfl (some 2) rfl rfl Z0 HZ.out w.heap.size rfl ?_)
    refine HRD.out.mono ?_
    rintro e w1 ⟨m, rfl, _, hb1⟩
    obtain ⟨CS, hCS⟩ : ∃ cs, cs = ndC m := ⟨_, rfl⟩
    have NC := Lib.hid (show Ndc CS by rw [hCS]; exact .of _)
    rw [← hCS]
    have B1 := Lib.hid (B0.out.call hb1)
    have K1 := Lib.hid (K0.out.below hb1)
    have A1 := Lib.hid (B1.out.alloc (.cells Z0 51))
    have L1 := Lib.hid (K1.out.alloc (.cells Z0 51))
    have M1 := Lib.hid (Blk.new w1 51 Z0)
    have hne : w.heap.size ≠ w1.heap.size := by have := K1.out.lt; omega
    have A2 := Lib.hid (Bl.setRow A1.out (g := w1.heap.size) B1.out.2 CS)
    have L2 := Lib.hid (L1.out.rowOther (cs := CS) hne)
    clear hne hb1 hCS
    simp only [Option.isSome_none]
    go_wp2_with (first
      | (refine wpList_alloc_nd rfl (some 4) rfl rfl Z0 HZ.out w1.heap.size rfl ?_)
      | (refine wpList_store_nd rfl (.tmp 4) (.tmp 11) rfl rfl w1.heap.size CS rfl rfl 51 Z0 M1.out NC.out NZ.out ?_)
      | (refine wpList_build_nd0 rfl (some 15) rfl rfl Z0 HZ.out ?_)
      | (refine wpList_store_nd rfl (.tmp 2) (.tmp 15) rfl rfl w.heap.size Z0 rfl rfl 51 Z0 L2.out NZ.out NZ.out ?_))
    exact bodyPost_ret (results_nd rfl _ _ _ rfl rfl L2.out.row NZ.out) rfl ⟨by rw [HZ.out]; rfl, (Bl.setRow A2.out (Nat.le_refl _) _).1⟩
  · have hf := read_facts hR
    have hrl := refs_lt hR
    have hpt := fun W (h : Laid2 W) => put_all n W hf.1 (fun r hr => ih r (hrl.2 r (by rw [rfs_eq n hf.1] at hr; exact hr))) h
    unfold Ptd at hpt
    have hO2 : O = if validB n = true ∧ bytesB n = s then some n else none := by rw [hO, hg]; unfold getK; rw [hR]; rfl
    rw [hR] at hrd
    obtain ⟨CS, hCS⟩ : ∃ cs, cs = ndC n := ⟨_, rfl⟩
    have hcs : Ndc CS := by rw [hCS]; exact .of _
    rw [← hCS] at hpt
    have HRD := Lib.hid hrd
    have HZ := Lib.hid hZ0
    have NZ := Lib.hid hz0
    have K0 := Lib.hid k0
    have B0 := Lib.hid b0
    have HL := Lib.hid hl
    have HCS := Lib.hid hCS
    have NC := Lib.hid hcs
    obtain ⟨PB, hPB⟩ : ∃ p, p = putB n := ⟨_, rfl⟩
    obtain ⟨V, hV⟩ : ∃ p, p = validB n := ⟨_, rfl⟩
    rw [← hPB, ← hV] at hpt
    rw [← hV] at hO2
    have hpb : V = true → PB = bytesB n := fun h => by rw [hPB]; unfold putB; rw [if_pos (by rw [← hV]; exact h)]
    have HPB := Lib.hid hpb
    have HO := Lib.hid hO2
    have HPT := Lib.hid hpt
    clear hZ0 hz0 k0 b0 hO hl l0 hrd ih hg hR hs hf hrl hpt hO2 hCS hcs hPB hV hpb
    go_enter Tryz.func33, Tryz.ntmps33
    go_wp2_with (refine wpList_alloc_nd rfl (some 2) rfl rfl Z0 HZ.out w.heap.size rfl ?_)
    refine HRD.out.mono ?_
    rintro e w1 ⟨m, rfl, hm, hb1⟩
    obtain rfl : m = n := hm n rfl
    rw [← HCS.out]
    have B1 := Lib.hid (B0.out.call hb1)
    have K1 := Lib.hid (K0.out.below hb1)
    have A1 := Lib.hid (B1.out.alloc (.cells Z0 51))
    have L1 := Lib.hid (K1.out.alloc (.cells Z0 51))
    have M1 := Lib.hid (Blk.new w1 51 Z0)
    have hne : w.heap.size ≠ w1.heap.size := by have := K1.out.lt; omega
    have A2 := Lib.hid (Bl.setRow A1.out (g := w1.heap.size) B1.out.2 CS)
    have L2 := Lib.hid (L1.out.rowOther (cs := CS) hne)
    have M2 := Lib.hid (M1.out.row (cs := CS))
    clear hne hb1 hm
    simp only [Option.isSome_some]
    go_wp2_with (first
      | (refine wpList_alloc_nd rfl (some 4) rfl rfl Z0 HZ.out w1.heap.size rfl ?_)
      | (refine wpList_store_nd rfl (.tmp 4) (.tmp 11) rfl rfl w1.heap.size CS rfl rfl 51 Z0 M1.out NC.out NZ.out ?_)
      | (refine wpList_load_nd rfl (some 17) rfl (.tmp 4) rfl w1.heap.size rfl 51 CS M2.out NC.out ?_))
    generalize (w1.alloc (.cells Z0 51)).setRow w1.heap.size CS = W2 at *
    refine (HPT.out W2 (HL.out.on A2.out.1 (Nat.le_refl _))).mono ?_
    rintro e w3 ⟨rfl, hb3⟩
    have A3 := Lib.hid (A2.out.call hb3)
    have L3 := Lib.hid (L2.out.below hb3)
    have M3 := Lib.hid (M2.out.below hb3)
    clear hb3
    rcases V with _ | _
    · have hn : O = none := by rw [HO.out, if_neg (fun h => by cases h.1)]
      subst hn
      simp only [Bool.false_eq_true, if_false]
      go_wp2_with (first
        | (refine wpList_build_nd0 rfl (some 28) rfl rfl Z0 HZ.out ?_)
        | (refine wpList_store_nd rfl (.tmp 2) (.tmp 28) rfl rfl w.heap.size Z0 rfl rfl 51 Z0 L3.out NZ.out NZ.out ?_))
      exact bodyPost_ret (results_nd rfl _ _ _ rfl rfl L3.out.row NZ.out) rfl ⟨by rw [HZ.out]; rfl, (Bl.setRow A3.out (Nat.le_refl _) _).1⟩
    · by_cases he : PB = s
      · have hn : O = some m := by rw [HO.out, if_pos ⟨rfl, by rw [← HPB.out rfl]; exact he⟩]
        subst hn
        have be : (PB.toList == s.toList) = true := by rw [bytes_eq]; simp [he]
        have be2 : (PB.toList != s.toList) = false := by rw [bne, be]; rfl
        clear he
        simp only [if_true]
        go_wp2_with (first
          | (refine wpList_load_nd rfl (some 29) rfl (.tmp 4) rfl w1.heap.size rfl 51 CS M3.out NC.out ?_)
          | (refine wpList_store_nd rfl (.tmp 2) (.tmp 29) rfl rfl w.heap.size CS rfl rfl 51 Z0 L3.out NC.out NZ.out ?_))
        exact bodyPost_ret (results_nd rfl _ _ _ rfl rfl L3.out.row NC.out) rfl ⟨by rw [HCS.out]; rfl, (Bl.setRow A3.out (Nat.le_refl _) _).1⟩
      · have hn : O = none := by rw [HO.out, if_neg (fun h => he (by rw [HPB.out rfl]; exact h.2))]
        subst hn
        have be : (PB.toList == s.toList) = false := by rw [bytes_eq]; simp [he]
        have be2 : (PB.toList != s.toList) = true := by rw [bne, be]; rfl
        clear he
        simp only [if_true]
        go_wp2_with (first
          | (refine wpList_build_nd0 rfl (some 28) rfl rfl Z0 HZ.out ?_)
          | (refine wpList_store_nd rfl (.tmp 2) (.tmp 28) rfl rfl w.heap.size Z0 rfl rfl 51 Z0 L3.out NZ.out NZ.out ?_))
        exact bodyPost_ret (results_nd rfl _ _ _ rfl rfl L3.out.row NZ.out) rfl ⟨by rw [HZ.out]; rfl, (Bl.setRow A3.out (Nat.le_refl _) _).1⟩
theorem get_small : ∀ (m : Nat) (s : ByteArray), s.size < m → s.size < 32 → GetC s := by
  intro m
  induction m with
  | zero => intro s h; omega
  | succ m ih => intro s h h32; exact get_step s (by omega) (fun r h1 h2 => ih r (by omega) h2)
/-- node.Get. -/
theorem get_any (s : ByteArray) (hs : s.size ≤ 10000) : GetC s := get_step s hs (fun r _ h => get_small 32 r h h)
end Go.Proofs.YtfeonjiiijdibaaGreatDoor
namespace Go.Proofs.Segs
open Go Go.RowKit
variable {F : Fence} {n : Nat} {P : Program} {ops : Array Oper} {Q : Exit → Act → World → Prop}
theorem opIn_val {i : Nat} {o : Oper} {K : Act → World → Prop} {a : Act} {w : World} (hi : ops[i]? = some o) (d : Option Tmp) (hd : o.dst = d) (hw : Region.wanted o (yielded ops a.tmps) = true) (hnd : ∀ c, o.op ≠ .defer c) (hF : ∀ f, F.fn f)
    (v : Value) (w' : World) (hrun : (execOp a.eval o).run P w = .ok (.value v) w') (h : K (a.put d v) w') : wpOpIn F n P ops Q i K a w := by
  subst hd
  unfold wpOpIn
  rw [hi]
  simp only [hw, if_true]
  unfold Oper.wpIn
  rw [Oper.semAt_eq _ _ _ hnd, hrun]
  exact ⟨fun f _ => hF f, h⟩
theorem opIn_skip {i : Nat} {o : Oper} {K : Act → World → Prop} {a : Act} {w : World} (hi : ops[i]? = some o) (hd : o.dst = none) (hw : Region.wanted o (yielded ops a.tmps) = true) (hnd : ∀ c, o.op ≠ .defer c) (hF : ∀ f, F.fn f)
    (w' : World) (hrun : (execOp a.eval o).run P w = .ok .skip w') (h : K a w') : wpOpIn F n P ops Q i K a w := by
  unfold wpOpIn
  rw [hi]
  simp only [hw, if_true]
  unfold Oper.wpIn
  rw [Oper.semAt_eq _ _ _ hnd, hrun]
  refine ⟨fun f _ => hF f, ?_⟩
  show K (a.put o.dst undef) w'
  rw [hd]
  exact h
theorem opIn_call {i : Nat} {o : Oper} {K : Act → World → Prop} {a : Act} {w : World} (hi : ops[i]? = some o) (d : Option Tmp) (hd : o.dst = d) (hw : Region.wanted o (yielded ops a.tmps) = true) (hnd : ∀ c, o.op ≠ .defer c) (hF : ∀ f, F.fn f) (hdp : F.depth = none)
    (f : FuncId) (args : Array Value) (R : Ending → World → Prop) (hrun : (execOp a.eval o).run P w = .ok (.enter f args) w) (hc : CallsIn F (n - 1) P f args w R)
    (h : ∀ e w', R e w' → ∃ v, e = .returned v ∧ K (a.put d v) w') : wpOpIn F n P ops Q i K a w := by
  subst hd
  unfold wpOpIn
  rw [hi]
  simp only [hw, if_true]
  unfold Oper.wpIn
  rw [Oper.semAt_eq _ _ _ hnd, hrun]
  refine ⟨fun f _ => hF f, ?_⟩
  rw [Oper.uponIn_enter]
  refine ⟨fun h => (by rw [hdp] at h; cases h), hc.mono fun e w' hR => ?_⟩
  obtain ⟨v, rfl, h2⟩ := h e w' hR
  exact h2
end Go.Proofs.Segs
namespace Go.Proofs.YtfeonjiiijdibaaGreatDoor
open Go.RowKit Go.Shelf Go.Proofs.Nod
attribute [local go_sem] Oper.semAt_some
set_option linter.unusedVariables false
set_option linter.unusedSimpArgs false
/-- The hashes that a node refers to. (A node that is inline refers to none.) -/
def hashes (n : Nd) : List ByteArray := if validB n = true then (used n 16).filterMap hashB else []
theorem hashB_size {r h : ByteArray} (e : hashB r = some h) : r.size = 33 ∧ h.size = 32 := by
  unfold hashB at e
  split at e
  · next k => cases e; exact ⟨k.1, by rw [extract_size r 1 32 (by omega)]⟩
  · cases e
theorem hashes_short (n : Nd) (h : ∀ r ∈ rfs n, r.size < 32) : hashes n = [] := by
  unfold hashes
  split
  · rw [used_all, List.filterMap_eq_nil_iff]
    intro r hr
    rcases he : hashB r with _ | x
    · rfl
    · have := (hashB_size he).1
      have := h r (List.mem_filter.1 hr).1
      omega
  · rfl
/-- What is known of the node in a ref. -/
theorem in_facts {r : ByteArray} {m : Nd} (h : inB r = some m) : r.size < 32 ∧ m.refs.length = 16 ∧ (∀ x ∈ rfs m, x.size < r.size) ∧ m.path.size ≤ 64 ∧ m.value.size ≤ 32 := by
  unfold inB inlineK at h
  split at h
  · cases h
  · next h32 =>
    have hg : gB r = some m := by
      rcases hx : gB r with _ | y
      · simp [hx] at h
      · simp only [hx] at h
        split at h
        · cases h
        · exact h
    rw [show gB r = getK itemsB gB r from getB_eq r] at hg
    unfold getK at hg
    split at hg
    · cases hg
    · next y hy =>
      split at hg
      · cases hg
        have h1 := read_facts hy
        have h2 := refs_lt hy
        refine ⟨by omega, h1.1, fun x hx => h2.2 x (by rw [rfs_eq _ h1.1] at hx; exact hx), by omega, by omega⟩
      · cases hg
def fl {n : Nd} (pre : List (RefOf n)) : List ByteArray := (bareR pre).filterMap hashB
theorem fl_none {n : Nd} (pre : List (RefOf n)) (x : RefOf n) (h : hashB x.1 = none) : fl (pre ++ [x]) = fl pre := by unfold fl; rw [bareR_snoc, List.filterMap_append]; simp [h]
theorem fl_some {n : Nd} (pre : List (RefOf n)) (x : RefOf n) (y : ByteArray) (h : hashB x.1 = some y) : fl (pre ++ [x]) = fl pre ++ [y] := by unfold fl; rw [bareR_snoc, List.filterMap_append]; simp [h]
theorem fl_le {n : Nd} (pre : List (RefOf n)) : (fl pre).length ≤ pre.length := by unfold fl; have := List.length_filterMap_le hashB (bareR pre); simpa [bareR] using this
theorem own_cells {w : World} {base : Nat} {e : TypeId} {size n : Nat} {v : Value} {xs : List Value} (h : w.ownsRow base e size v n xs) : ∀ (j : Nat) (o : Obj), v.ownBlock = some j → w.heap[j]? = some o → o.isCells = true := by
  intro j o hj ho
  rcases h.2 with ⟨rfl, _⟩ | ⟨g, cap, cur, rfl, _, hg, _⟩
  · cases hj
  · cases hj
    rw [hg] at ho
    cases ho
    rfl
theorem KeepsOthers.setRow' {w : World} {g : Nat} {t : TypeId} {old : Array Value} (h : Blk w g t old) (cs : Array Value) : KeepsOthers w (w.setRow g cs) :=
  ⟨by simp [World.setRow], fun k o hk ho => by
    simp only [World.setRow, Array.getElem?_modify]
    split
    · next e => subst e; rw [show w.heap[g]? = _ from h] at hk; cases hk; cases ho
    · exact hk⟩
theorem wpListIn_append_strs {F : Fence} {n : Nat} {ops : Array Oper} {rest : List Oper} {o : Oper} {a : Act} {Q : Exit → Act → World → Prop} {W : World} (hg : o.guard = none) (d : Option Tmp) (hd : o.dst = d) (s x : Operand)
    (ho : o.op = .call { callee := .builtin .append, args := #[s, x], argTypes := #[29, 29] }) (hty : o.type = 29) (base : Nat) (v u : Value) (xs ys : List ByteArray) (hs : a.eval s = v) (hx : a.eval x = u)
    (hown : W.ownsRow base 9 1 v xs.length (xs.map Value.string)) (hS : Sl W u ys) (hm : xs.length + ys.length ≤ 1000000) (hb : base ≤ W.heap.size)
    (h : ∀ v' w', w'.ownsRow base 9 1 v' (xs ++ ys).length ((xs ++ ys).map Value.string) → W.grownBy w' v.ownBlock → wpListIn F n Tryz.prog ops Q rest (a.put d v') w') : wpListIn F n Tryz.prog ops Q (o :: rest) a W := by
  obtain ⟨v', w', h1, h2, h3, h4⟩ := append_strs W base v u xs ys hown hS hm hb
  refine wpListIn_runTo hg d hd (fun c => by rw [ho]; exact fun e => by cases e) (by unfold Oper.about; rw [ho]; simp [resolve, Target.leads]) v' w' ?_ (h v' w' h2 h3)
  unfold execOp
  simp only [ho, hty, resolve, invoke, builtin, Sem.run_bind, Sem.run_pure, Result.andThen_ok, List.map_toArray, List.map_cons, List.map_nil, hs, hx, h1]
/-- What an append, and the store behind it, leave as it lay. -/
theorem tail_app {N M n m : Nat} {W w5 w6 : World} {v v6 : Value} {l l' : List Value} (K5 : KeepsOthers W w5) (B5 : Bl N W w5) (E5 : w5.heap[M + 1]? = W.heap[M + 1]?) (V5 : Boxed w5 M 29 v) (R5 : w5.ownsRow (M + 2) 9 1 v n l) (gr6 : w5.grownBy w6 v.ownBlock) (own6 : w6.ownsRow (M + 2) 9 1 v6 m l') (hNM : N ≤ M) (hM : M + 2 ≤ w5.heap.size) :
    Boxed w6 M 29 v ∧ KeepsOthers W (w6.setCell ⟨M, 0, none⟩ v6) ∧ Kb N (M + 1) W (w6.setCell ⟨M, 0, none⟩ v6) ∧ Boxed (w6.setCell ⟨M, 0, none⟩ v6) M 29 v6 ∧ (w6.setCell ⟨M, 0, none⟩ v6).ownsRow (M + 2) 9 1 v6 m l' ∧ M + 2 ≤ (w6.setCell ⟨M, 0, none⟩ v6).heap.size := by
  have hrow : ∀ i, v.ownBlock = some i → M + 2 ≤ i := fun i h => (R5.lt i h).1
  have V6 := V5.kept gr6 (fun h => by have := hrow M h.symm; omega)
  have B6 := (B5.grownRow R5 (by omega) gr6).setCell (p := ⟨M, 0, none⟩) hNM v6
  refine ⟨V6, (K5.trans (KeepsOthers.of_grownBy gr6 (own_cells R5))).trans (KeepsOthers.setCell _ _ _), ⟨B6.1, ?_⟩, V6.set _, own6.kept (grownBy_setCell' w6 M v6) (.inr (fun h => by have := (own6.lt _ h).1; omega)), ?_⟩
  · rw [Below.heap_setCell _ _ _ _ (by simp)]
    exact (gr6.block _ (by omega) (fun h => by have := hrow (M + 1) h.symm; omega)).trans E5
  · have := gr6.size; simp; omega
theorem run_append_of {o : Oper} {a : Act} {W W' : World} {v u v' : Value} (s x : Operand) (ho : o.op = .call { callee := .builtin .append, args := #[s, x], argTypes := #[29, 29] }) (hty : o.type = 29) (hs : a.eval s = v) (hx : a.eval x = u)
    (h1 : (Builtin.append_ #[29, 29] 29 #[v, u]).run Tryz.prog W = .ok v' W') : (execOp a.eval o).run Tryz.prog W = .ok (.value v') W' := by
  unfold execOp
  simp only [ho, hty, resolve, invoke, builtin, Sem.run_bind, Sem.run_pure, Result.andThen_ok, List.map_toArray, List.map_cons, List.map_nil, hs, hx, h1]
/-- A slice of strings is stored into its box. -/
theorem store_box {W : World} {M base n : Nat} {v u : Value} {l : List Value} {a : Act} {o : Oper} {x y : Operand} (h : Boxed W M 29 v) (hown : W.ownsRow base 9 1 u n l) (ho : o.op = .store 29 x y := by rfl) (hx : a.eval x = .pointer (some ⟨M, 0, none⟩) := by kernel_rfl) (hy : a.eval y = u := by kernel_rfl) :
    (execOp a.eval o).run Tryz.prog W = .ok .skip (W.setCell ⟨M, 0, none⟩ u) := by
  have h1 : ∃ A k c, u = .slice A k c := by
    rcases hown.2 with ⟨rfl, _⟩ | ⟨g, cap, cur, rfl, _⟩
    · exact ⟨_, _, _, rfl⟩
    · exact ⟨_, _, _, rfl⟩
  obtain ⟨A, k, c, rfl⟩ := h1
  have hc := h.cell
  have hf := h.frozen
  unfold execOp
  simp only [ho, hx, hy, Instr.storeAt, Instr.sureAddr, Sem.run_bind, Sem.run_pure, Result.andThen_ok]
  simp [go_sem, hc, hf]
/-- What Hashes hands back. -/
def Hsh (n : Nd) (w : World) (e : Ending) (w' : World) : Prop := ∃ v, e = .returned v ∧ w'.ownsRow w.heap.size 9 1 v (hashes n).length ((hashes n).map Value.string) ∧ Below w.heap.size w w'
def HshC (n : Nd) : Prop := ∀ W, Laid2 W → Calls Tryz.prog 35 #[.agg (ndC n)] W (Hsh n W)
set_option maxRecDepth 100000 in
set_option maxHeartbeats 2000000 in
theorem hashes_step (nd : Nd) (h16 : nd.refs.length = 16) (ih : ∀ r ∈ rfs nd, ∀ m, inB r = some m → HshC m) : HshC nd := by
  intro w hl
  have k0 := Blk.new w 51 (ndC nd)
  have b0 : Bl w.heap.size w (w.alloc (.cells (ndC nd) 51)) := (Bl.start w).alloc _
  have l0 : Laid2 (w.alloc (.cells (ndC nd) 51)) := hl.on b0.1 (Nat.le_refl _)
  have hval := valid_all nd _ h16 (fun r _ h => get_any r (by omega)) l0
  have hra := fun W => refs_any nd W
  obtain ⟨CS, hCS⟩ : ∃ cs, cs = ndC nd := ⟨_, rfl⟩
  have hcs : Ndc CS := by rw [hCS]; exact .of _
  rw [← hCS] at hval k0 b0 hra ⊢
  unfold Hsh
  by_cases hok : validB nd = true
  · rw [hok] at hval
    have hh : hashes nd = (used nd 16).filterMap hashB := by unfold hashes; rw [if_pos hok]
    have HVL := Lib.hid hval
    have HRA := Lib.hid hra
    have NC := Lib.hid hcs
    have K0 := Lib.hid k0
    have B0 := Lib.hid b0
    have HL := Lib.hid hl
    have HCS := Lib.hid hCS
    have HH := Lib.hid hh
    have IH := Lib.hid ih
    clear hval hra hcs k0 b0 l0 hl hCS hh ih hok
    refine (callsIn_wide (n := 5)).1 ?_
    refine callsIn_of_wp_marks Tryz.func35 rfl trivial ?_ rfl
    simp only [Tryz.ntmps35, List.size_toArray, List.length_cons, List.length_nil, Nat.reduceAdd, Nat.reduceSub, Array.replicate_succ, Array.replicate_zero, List.push_toArray, List.append_toArray, List.nil_append, List.cons_append]
    gi_wp2_with (refine wpListIn_load_nd rfl (some 9) rfl (.tmp 1) rfl w.heap.size rfl 51 CS K0.out NC.out ?_)
    refine ⟨trivial, (callsIn_wide.2 HVL.out).mono ?_⟩
    rintro e w1 ⟨rfl, hb1⟩
    have K1 := Lib.hid (K0.out.below hb1)
    have B1 := Lib.hid (B0.out.call hb1)
    have K2 := Lib.hid (K1.out.alloc (.cells #[.slice none 0 0] 29))
    clear hb1
    gi_wp2_with (first
      | (refine wpListIn_load_nd rfl (some 12) rfl (.tmp 1) rfl w.heap.size rfl 51 CS K2.out NC.out ?_)
      | (refine ⟨trivial, ?_⟩; refine (callsIn_wide.2 (HRA.out _)).mono ?_; rintro e w' ⟨rfl, rfl⟩))
    have bA0 := (Boxed.new w1 29 (.slice none 0 0)).alloc (.cells CS 51)
    have bN0 := Blk.new (w1.alloc (.cells #[.slice none 0 0] 29)) 51 CS
    have hB0 := (B1.out.alloc (.cells #[.slice none 0 0] 29)).alloc (.cells CS 51)
    simp only [World.size_alloc] at bN0
    have hsz : ((w1.alloc (.cells #[.slice none 0 0] 29)).alloc (.cells CS 51)).heap.size = w1.heap.size + 2 := by simp
    generalize (w1.alloc (.cells #[.slice none 0 0] 29)).alloc (.cells CS 51) = W0 at bA0 bN0 hB0 hsz ⊢
    obtain ⟨N, hN⟩ : ∃ N, N = w.heap.size := ⟨_, rfl⟩
    obtain ⟨M, hM⟩ : ∃ N, N = w1.heap.size := ⟨_, rfl⟩
    have hNM : N ≤ M := by have := B1.out.2; omega
    rw [← hM] at bA0 bN0 hsz ⊢
    rw [← hN] at hB0 ⊢
    have hNw : N ≤ w.heap.size := by omega
    have HN := Lib.hid hN
    have HNM := Lib.hid hNM
    rw [HCS.out] at bN0
    have LW : Hid (∀ W, Below N w W → Laid2 W) := Lib.hid (fun W h => HL.out.on (by rw [← hN]; exact h) (Nat.le_refl _))
    clear hN hM K1 B1 K2 hNM
    refine wpIn_rangeFunc_ownF rfl (by decide) (gf := 99) (lb := #[.pointer (some ⟨M + 1, 0, none⟩)]) rfl trivial (enters_of Tryz.func99 (by kernel_rfl) rfl)
      (refs_stops 4 (M + 1) N nd (by decide) W0 51 bN0) kb_t (kb_b (by have := HNM.out; omega) (by omega)) (Below.refl _ _) (fun _ => rfl)
      (fun pre W => (∃ v, Boxed W M 29 v ∧ W.ownsRow (M + 2) 9 1 v (fl pre).length ((fl pre).map Value.string) ∧ True) ∧ Below N w W ∧ M + 2 ≤ W.heap.size)
      (fun c pre W => False)
      (OwnFrom.and (Own.from (holdsRow_own (M + 2) M 29 9 1 (fun pre => (fl pre).length) (fun pre => (fl pre).map Value.string) (fun _ _ => True)) _) (OwnFrom.and (ownFrom_below hNw (by have := HNM.out; omega)) (ownFrom_size _ _)))
      (fun c => ownFrom_pure _ _)
      ⟨⟨_, bA0, World.ownsRow_nil _ _ _ _, trivial⟩, hB0.1, by omega⟩
      (fun x => { tmps := #[.agg CS, .pointer (some ⟨N, 0, none⟩), .slice none 0 0, .pointer (some ⟨M, 0, none⟩), .string x.1, undef, undef, undef, undef, .agg CS, .bool true, .bool false, .agg CS, .func (.func 99) #[] #[.pointer (some ⟨M + 1, 0, none⟩)], .string x.1, undef, undef, undef, undef, undef, undef, undef, undef, undef, undef, undef, undef, undef, undef, undef, undef, undef, undef, undef, undef, undef], defers := [] }) ?assign ?body ?done ?stop
    case assign =>
      intro l x W K hK
      gi_wp2
      exact hK
    case body =>
      rintro l pre x W ⟨⟨v, hv, hrow, _⟩, hB, hM2⟩ hlen
      have hhs := hash_any x.1 W
      rcases hhx : hashB x.1 with _ | y
      · rw [hhx] at hhs
        have hfl := fl_none pre x hhx
        have hin := fun W' (h : Laid2 W') => inline_any x.1 W' h (fun h => get_any x.1 (by omega))
        unfold Inl at hin
        have hih := IH.out x.1 x.2
        have hif := fun m (h : inB x.1 = some m) => in_facts h
        obtain ⟨I, hI⟩ : ∃ i, i = inB x.1 := ⟨_, rfl⟩
        rw [← hI] at hin hih hif
        obtain ⟨CS2, hCS2⟩ : ∃ cs, cs = ndC (I.getD zeroN) := ⟨_, rfl⟩
        have hcs2 : Ndc CS2 := by rw [hCS2]; exact .of _
        rw [← hCS2] at hin
        obtain ⟨Z0, hZ0⟩ : ∃ z, z = ndC zeroN := ⟨_, rfl⟩
        have hz0 : Ndc Z0 := by rw [hZ0]; exact .of _
        have HZ := Lib.hid hZ0
        have NZ := Lib.hid hz0
        have NC2 := Lib.hid hcs2
        have HC2 := Lib.hid hCS2
        have HHS := Lib.hid hhs
        have HIN := Lib.hid hin
        have HFL := Lib.hid hfl
        have HV := Lib.hid hv
        have HR := Lib.hid hrow
        have HB := Lib.hid hB
        have HM2 := Lib.hid hM2
        have HIH0 := Lib.hid hih
        have HIF := Lib.hid hif
        have hpl := fl_le pre
        have HPL := Lib.hid (show (fl pre).length + 1 ≤ 1000000 by omega)
        have BW := Lib.hid (show Bl N W W from ⟨Below.refl _ _, by have := HNM.out; omega⟩)
        clear hhs hin hfl hrow hB hhx hlen hM2 hpl hI hCS2 hcs2 hZ0 hz0 hih hif hv
        gi_wp2_with fail
        refine ⟨trivial, (CallsIn.inRound l (callsIn_wide.2 HHS.out)).mono ?_⟩
        rintro e w4 ⟨rfl, hb4⟩
        have HB4 := Lib.hid hb4
        have BB4 := Lib.hid (HB.out.trans (hb4.mono BW.out.2))
        clear hb4
        gi_wp2_with fail
        refine ⟨trivial, (CallsIn.inRound l (callsIn_wide.2 (HIN.out w4 (LW.out _ BB4.out)))).mono ?_⟩
        rintro e w5 ⟨rfl, hb5⟩
        have HB5 := Lib.hid (HB4.out.trans (hb5.mono HB4.out.size))
        clear hb5
        have M5 := Lib.hid (Blk.new w5 51 Z0)
        have hM5 : M + 2 ≤ w5.heap.size := Nat.le_trans HM2.out HB5.out.size
        have hgW : Below W.heap.size W ((w5.alloc (.cells Z0 51)).setRow w5.heap.size CS2) := (Bl.setRow ((Bl.start W).call HB5.out |>.alloc (.cells Z0 51)) (g := w5.heap.size) HB5.out.size CS2).1
        have M7 := Lib.hid (show Blk ((w5.alloc (.cells Z0 51)).setRow w5.heap.size CS2).drew w5.heap.size 51 CS2 from M5.out.row)
        have HG := Lib.hid hgW
        clear hgW
        rcases I with _ | m
        · simp only [Option.isSome_none]
          gi_wp2_with (first
            | (refine wpListIn_alloc_nd rfl (some 7) rfl rfl Z0 HZ.out w5.heap.size rfl ?_)
            | (refine wpListIn_store_nd rfl (.tmp 7) (.tmp 28) rfl rfl w5.heap.size CS2 rfl rfl 51 Z0 M5.out NC2.out NZ.out ?_))
          refine ⟨KeepsOthers.of_grownBy (grown_of_below HG.out) (fun j o e => by cases e), ⟨HG.out.mono BW.out.2, HG.out.block _ (by have := HM2.out; omega)⟩, ⟨v, HV.out.kept (grown_of_below HG.out) (by simp), ?_, trivial⟩, HB.out.trans (HG.out.mono BW.out.2), Nat.le_trans HM2.out HG.out.size⟩
          rw [HFL.out]
          exact own_far HR.out (Far.call (Far.refl (fun _ => False) W) HG.out) (fun _ _ h => h)
        · simp only [Option.isSome_some]
          have hsh := hashes_short m (fun r hr => by have h1 := HIF.out m rfl; have := h1.2.2.1 r hr; omega)
          have hih2 := HIH0.out m rfl
          unfold HshC Hsh at hih2
          rw [hsh, ← (show CS2 = ndC m from HC2.out)] at hih2
          have HIH := Lib.hid hih2
          clear hih2 hsh
          gi_wp2_with (first
            | (refine wpListIn_alloc_nd rfl (some 7) rfl rfl Z0 HZ.out w5.heap.size rfl ?_)
            | (refine wpListIn_store_nd rfl (.tmp 7) (.tmp 28) rfl rfl w5.heap.size CS2 rfl rfl 51 Z0 M5.out NC2.out NZ.out ?_))
          refine wpIn_region_any (by kernel_rfl) ?_
          change wpAnyIn _ _ _ _ _ _ _ _ _ (World.drew _)
          have G7 := Lib.hid HG.out.drew
          generalize ((w5.alloc (.cells Z0 51)).setRow w5.heap.size CS2).drew = w7 at *
          have V7 := Lib.hid (HV.out.kept (grown_of_below G7.out) (by simp))
          have R7 := Lib.hid (own_far HR.out (Far.call (Far.refl (fun _ => False) W) G7.out) (fun _ _ h => h))
          have BW7 := Lib.hid (BW.out.call G7.out)
          have BB7 := Lib.hid (HB.out.trans BW7.out.1)
          have K7 := Lib.hid (KeepsOthers.of_grownBy (grown_of_below G7.out) (fun j o e => by cases e))
          have E7 := Lib.hid (G7.out.block (M + 1) (by have := HM2.out; omega))
          have S7 := Lib.hid (Nat.le_trans HM2.out G7.out.size)
          have VC := V7.out.cell
          refine wpAnyIn_all (rs := [0, 1]) (by kernel_rfl) (by simp) ?_
          intro i hi
          rcases (by simpa using hi : i = 0 ∨ i = 1) with rfl | rfl
          · clear hi
            refine Segs.opIn_val rfl (some 31) rfl (by kernel_rfl) (fun c => fun e => by cases e) (fun _ => trivial) v _ (Segs.run_cell 29 (.tmp 3) rfl M 0 (by kernel_rfl) _ (isAggSl _) VC) ?_
            simp only [Act.put, List.setIfInBounds_toArray, List.set_cons_zero, List.set_cons_succ]
            refine wpAnyIn_all (rs := [1]) (by kernel_rfl) (by simp) ?_
            intro i hi
            obtain rfl : i = 1 := by simpa using hi
            clear hi
            refine Segs.opIn_val rfl (some 32) rfl (by kernel_rfl) (fun c => fun e => by cases e) (fun _ => trivial) (.agg CS2) _ (Segs.run_row 51 (.tmp 7) rfl w5.heap.size (by kernel_rfl) 51 CS2 _ M7.out Tryz.underlying51 rfl (info19 NC2.out.size)) ?_
            simp only [Act.put, List.setIfInBounds_toArray, List.set_cons_zero, List.set_cons_succ]
            refine wpAnyIn_all (rs := [2]) (by kernel_rfl) (by simp) ?_
            intro i hi
            obtain rfl : i = 2 := by simpa using hi
            clear hi
            refine Segs.opIn_call rfl (some 33) rfl (by kernel_rfl) (fun c => fun e => by cases e) (fun _ => trivial) rfl 35 #[.agg CS2] _ (by kernel_rfl) (CallsIn.inRound l (callsIn_wide.2 (HIH.out w7 (LW.out _ BB7.out)))) ?_
            rintro e w8 ⟨u, rfl, ou, hb8⟩
            refine ⟨u, rfl, ?_⟩
            simp only [Act.put, List.setIfInBounds_toArray, List.set_cons_zero, List.set_cons_succ]
            have V8 := Lib.hid (V7.out.kept (grown_of_below hb8) (by simp))
            have R8 := Lib.hid (own_far R7.out (Far.call (Far.refl (fun _ => False) w7) hb8) (fun _ _ h => h))
            have B8 := Lib.hid (BW7.out.call hb8)
            have K8 := Lib.hid (K7.out.trans (KeepsOthers.of_grownBy (grown_of_below hb8) (fun j o e => by cases e)))
            have E8 := Lib.hid ((hb8.block (M + 1) (by have := S7.out; omega)).trans E7.out)
            have S8 := Lib.hid (Nat.le_trans S7.out hb8.size)
            have VC8 := V8.out.cell
            have U8 := Lib.hid (Sl.of_own (xs := []) ou)
            refine wpAnyIn_all (rs := [3]) (by kernel_rfl) (by simp) ?_
            intro i hi
            obtain rfl : i = 3 := by simpa using hi
            clear hi
            obtain ⟨v9, w9, ha, own9, gr9, _⟩ := append_strs w8 (M + 2) v u (fl pre) [] R8.out U8.out (by have := HPL.out; simp; omega) S8.out
            rw [List.append_nil] at own9
            obtain ⟨V9, KO, KK, VV, RR, SS⟩ := tail_app K8.out B8.out E8.out V8.out R8.out gr9 own9 HNM.out S8.out
            refine Segs.opIn_val rfl (some 34) rfl (by kernel_rfl) (fun c => fun e => by cases e) (fun _ => trivial) v9 w9 (run_append_of (.tmp 31) (.tmp 33) rfl rfl (by kernel_rfl) (by kernel_rfl) ha) ?_
            simp only [Act.put, List.setIfInBounds_toArray, List.set_cons_zero, List.set_cons_succ]
            refine wpAnyIn_all (rs := [4]) (by kernel_rfl) (by simp) ?_
            intro i hi
            obtain rfl : i = 4 := by simpa using hi
            clear hi
            refine Segs.opIn_skip rfl rfl (by kernel_rfl) (fun c => fun e => by cases e) (fun _ => trivial) (w9.setCell ⟨M, 0, none⟩ v9) (store_box V9 own9) ?_
            refine wpAnyIn_done (by kernel_rfl) ?_ _
            gi_wp2_with fail
            exact ⟨KO, KK, ⟨_, VV, by rw [HFL.out]; exact RR, trivial⟩, HB.out.trans KK.1, SS⟩
          · clear hi
            refine Segs.opIn_val rfl (some 32) rfl (by kernel_rfl) (fun c => fun e => by cases e) (fun _ => trivial) (.agg CS2) _ (Segs.run_row 51 (.tmp 7) rfl w5.heap.size (by kernel_rfl) 51 CS2 _ M7.out Tryz.underlying51 rfl (info19 NC2.out.size)) ?_
            simp only [Act.put, List.setIfInBounds_toArray, List.set_cons_zero, List.set_cons_succ]
            refine wpAnyIn_all (rs := [0, 2]) (by kernel_rfl) (by simp) ?_
            intro i hi
            rcases (by simpa using hi : i = 0 ∨ i = 2) with rfl | rfl
            · clear hi
              refine Segs.opIn_val rfl (some 31) rfl (by kernel_rfl) (fun c => fun e => by cases e) (fun _ => trivial) v _ (Segs.run_cell 29 (.tmp 3) rfl M 0 (by kernel_rfl) _ (isAggSl _) VC) ?_
              simp only [Act.put, List.setIfInBounds_toArray, List.set_cons_zero, List.set_cons_succ]
              refine wpAnyIn_all (rs := [2]) (by kernel_rfl) (by simp) ?_
              intro i hi
              obtain rfl : i = 2 := by simpa using hi
              clear hi
              refine Segs.opIn_call rfl (some 33) rfl (by kernel_rfl) (fun c => fun e => by cases e) (fun _ => trivial) rfl 35 #[.agg CS2] _ (by kernel_rfl) (CallsIn.inRound l (callsIn_wide.2 (HIH.out w7 (LW.out _ BB7.out)))) ?_
              rintro e w8 ⟨u, rfl, ou, hb8⟩
              refine ⟨u, rfl, ?_⟩
              simp only [Act.put, List.setIfInBounds_toArray, List.set_cons_zero, List.set_cons_succ]
              have V8 := Lib.hid (V7.out.kept (grown_of_below hb8) (by simp))
              have R8 := Lib.hid (own_far R7.out (Far.call (Far.refl (fun _ => False) w7) hb8) (fun _ _ h => h))
              have B8 := Lib.hid (BW7.out.call hb8)
              have K8 := Lib.hid (K7.out.trans (KeepsOthers.of_grownBy (grown_of_below hb8) (fun j o e => by cases e)))
              have E8 := Lib.hid ((hb8.block (M + 1) (by have := S7.out; omega)).trans E7.out)
              have S8 := Lib.hid (Nat.le_trans S7.out hb8.size)
              have VC8 := V8.out.cell
              have U8 := Lib.hid (Sl.of_own (xs := []) ou)
              refine wpAnyIn_all (rs := [3]) (by kernel_rfl) (by simp) ?_
              intro i hi
              obtain rfl : i = 3 := by simpa using hi
              clear hi
              obtain ⟨v9, w9, ha, own9, gr9, _⟩ := append_strs w8 (M + 2) v u (fl pre) [] R8.out U8.out (by have := HPL.out; simp; omega) S8.out
              rw [List.append_nil] at own9
              obtain ⟨V9, KO, KK, VV, RR, SS⟩ := tail_app K8.out B8.out E8.out V8.out R8.out gr9 own9 HNM.out S8.out
              refine Segs.opIn_val rfl (some 34) rfl (by kernel_rfl) (fun c => fun e => by cases e) (fun _ => trivial) v9 w9 (run_append_of (.tmp 31) (.tmp 33) rfl rfl (by kernel_rfl) (by kernel_rfl) ha) ?_
              simp only [Act.put, List.setIfInBounds_toArray, List.set_cons_zero, List.set_cons_succ]
              refine wpAnyIn_all (rs := [4]) (by kernel_rfl) (by simp) ?_
              intro i hi
              obtain rfl : i = 4 := by simpa using hi
              clear hi
              refine Segs.opIn_skip rfl rfl (by kernel_rfl) (fun c => fun e => by cases e) (fun _ => trivial) (w9.setCell ⟨M, 0, none⟩ v9) (store_box V9 own9) ?_
              refine wpAnyIn_done (by kernel_rfl) ?_ _
              gi_wp2_with fail
              exact ⟨KO, KK, ⟨_, VV, by rw [HFL.out]; exact RR, trivial⟩, HB.out.trans KK.1, SS⟩
            · clear hi
              refine Segs.opIn_call rfl (some 33) rfl (by kernel_rfl) (fun c => fun e => by cases e) (fun _ => trivial) rfl 35 #[.agg CS2] _ (by kernel_rfl) (CallsIn.inRound l (callsIn_wide.2 (HIH.out w7 (LW.out _ BB7.out)))) ?_
              rintro e w8 ⟨u, rfl, ou, hb8⟩
              refine ⟨u, rfl, ?_⟩
              simp only [Act.put, List.setIfInBounds_toArray, List.set_cons_zero, List.set_cons_succ]
              have V8 := Lib.hid (V7.out.kept (grown_of_below hb8) (by simp))
              have R8 := Lib.hid (own_far R7.out (Far.call (Far.refl (fun _ => False) w7) hb8) (fun _ _ h => h))
              have B8 := Lib.hid (BW7.out.call hb8)
              have K8 := Lib.hid (K7.out.trans (KeepsOthers.of_grownBy (grown_of_below hb8) (fun j o e => by cases e)))
              have E8 := Lib.hid ((hb8.block (M + 1) (by have := S7.out; omega)).trans E7.out)
              have S8 := Lib.hid (Nat.le_trans S7.out hb8.size)
              have VC8 := V8.out.cell
              refine wpAnyIn_all (rs := [0]) (by kernel_rfl) (by simp) ?_
              intro i hi
              obtain rfl : i = 0 := by simpa using hi
              clear hi
              refine Segs.opIn_val rfl (some 31) rfl (by kernel_rfl) (fun c => fun e => by cases e) (fun _ => trivial) v _ (Segs.run_cell 29 (.tmp 3) rfl M 0 (by kernel_rfl) _ (isAggSl _) VC8) ?_
              simp only [Act.put, List.setIfInBounds_toArray, List.set_cons_zero, List.set_cons_succ]
              have U8 := Lib.hid (Sl.of_own (xs := []) ou)
              refine wpAnyIn_all (rs := [3]) (by kernel_rfl) (by simp) ?_
              intro i hi
              obtain rfl : i = 3 := by simpa using hi
              clear hi
              obtain ⟨v9, w9, ha, own9, gr9, _⟩ := append_strs w8 (M + 2) v u (fl pre) [] R8.out U8.out (by have := HPL.out; simp; omega) S8.out
              rw [List.append_nil] at own9
              obtain ⟨V9, KO, KK, VV, RR, SS⟩ := tail_app K8.out B8.out E8.out V8.out R8.out gr9 own9 HNM.out S8.out
              refine Segs.opIn_val rfl (some 34) rfl (by kernel_rfl) (fun c => fun e => by cases e) (fun _ => trivial) v9 w9 (run_append_of (.tmp 31) (.tmp 33) rfl rfl (by kernel_rfl) (by kernel_rfl) ha) ?_
              simp only [Act.put, List.setIfInBounds_toArray, List.set_cons_zero, List.set_cons_succ]
              refine wpAnyIn_all (rs := [4]) (by kernel_rfl) (by simp) ?_
              intro i hi
              obtain rfl : i = 4 := by simpa using hi
              clear hi
              refine Segs.opIn_skip rfl rfl (by kernel_rfl) (fun c => fun e => by cases e) (fun _ => trivial) (w9.setCell ⟨M, 0, none⟩ v9) (store_box V9 own9) ?_
              refine wpAnyIn_done (by kernel_rfl) ?_ _
              gi_wp2_with fail
              exact ⟨KO, KK, ⟨_, VV, by rw [HFL.out]; exact RR, trivial⟩, HB.out.trans KK.1, SS⟩
      · rw [hhx] at hhs
        have hfl := fl_some pre x y hhx
        have HHS := Lib.hid hhs
        have HFL := Lib.hid hfl
        have HV := Lib.hid hv
        have HR := Lib.hid hrow
        have HB := Lib.hid hB
        have HM2 := Lib.hid hM2
        have hpl := fl_le pre
        have HPL := Lib.hid (show (fl pre).length + 1 ≤ 1000000 by omega)
        clear hhs hfl hrow hB hhx hlen hM2 hpl
        have hWN : N ≤ W.heap.size := by have := HNM.out; have := HM2.out; omega
        have BW : Bl N W W := ⟨Below.refl _ _, hWN⟩
        have BW := Lib.hid BW
        clear hWN
        gi_wp2_with (first
          | (refine ⟨trivial, ?_⟩; refine (CallsIn.inRound l (callsIn_wide.2 HHS.out)).mono ?_; rintro e w4 ⟨rfl, hb4⟩; have V4 := Lib.hid (HV.out.kept (grown_of_below hb4) (by simp)); have R4 := Lib.hid (own_far HR.out (Far.call (Far.refl (fun _ => False) W) hb4) (fun _ _ h => h)); have HB4 := Lib.hid hb4; have c4 := V4.out.cell; have f4 := V4.out.frozen; clear hb4)
          | (gi_at_builtin; refine wpListIn_append_strs rfl (some 24) rfl (.tmp 21) (.tmp 23) rfl rfl (M + 2) v _ (fl pre) [y] rfl rfl (World.ownsRow.alloc R4.out _) (one_lit _ y) HPL.out (Nat.le_trans HM2.out (Nat.le_trans HB4.out.size (Nat.le_of_lt (by simp)))) ?_; intro v6 w6 own6 gr6; obtain ⟨A6, q6, rfl, _, _⟩ := Sl.of_own own6; obtain ⟨V6, KO, KK, VV, RR, SS⟩ := tail_app ((KeepsOthers.of_grownBy (grown_of_below HB4.out) (fun j o e => by cases e)).trans (KeepsOthers.alloc _ _)) ((BW.out.call HB4.out).alloc _) ((Below.heap_alloc _ _ _ (Nat.lt_of_lt_of_le HM2.out HB4.out.size)).trans (HB4.out.block _ HM2.out)) (V4.out.alloc _) (World.ownsRow.alloc R4.out _) gr6 own6 HNM.out (Nat.le_trans HM2.out (Nat.le_trans HB4.out.size (Nat.le_of_lt (by simp)))); have c6 := V6.cell; have f6 := V6.frozen; have KO := Lib.hid KO; have KK := Lib.hid KK; have VV := Lib.hid VV; have RR := Lib.hid RR; have SS := Lib.hid SS; clear own6 gr6))
        rw [← show (fl pre ++ [y]).length = (fl pre).length + 1 by simp]
        refine ⟨KO.out, KK.out, ⟨_, VV.out, ?_, trivial⟩, HB.out.trans KK.out.1, SS.out⟩
        rw [HFL.out]
        exact RR.out
    case done =>
      rintro D ys W hD hys ⟨⟨v, hv, hrow, _⟩, hB, hM2⟩ hK
      have hfl : fl ys = hashes nd := by unfold fl; rw [hys, HH.out]
      rw [hfl] at hrow
      have hc := hv.cell
      obtain ⟨A6, q6, rfl, _, _⟩ := Sl.of_own hrow
      have HR := Lib.hid hrow
      have HFL := Lib.hid hfl
      clear hfl hrow
      have hMD : M + 2 ≤ D := by omega
      gi_wp2
      refine ⟨by simp, .inl ⟨_, _, rfl, run_takeDeferred hK, ?_⟩⟩
      refine ⟨_, results_tmp rfl _ _ _, _, rfl, row_mono (ownsRow_putObj HR.out _ hK rfl) (by rw [← HN.out]; have := HNM.out; omega), ?_⟩
      rw [← HN.out]
      exact hB.trans (belowK_b (w := w) hNw W D _ _ (by have := HN.out; have := HNM.out; omega) hK rfl rfl)
    case stop =>
      rintro D c pre W hD hp hf hK
      exact hf.elim
  · have hh : hashes nd = [] := by unfold hashes; rw [if_neg hok]
    have hf : validB nd = false := by simpa using hok
    rw [hf] at hval
    rw [hh]
    have HVL := Lib.hid hval
    have NC := Lib.hid hcs
    have K0 := Lib.hid k0
    have B0 := Lib.hid b0
    clear hval hra hcs k0 b0 l0 hl hCS hh ih hok hf
    go_enter Tryz.func35, Tryz.ntmps35
    go_wp2_with (refine wpList_load_nd rfl (some 9) rfl (.tmp 1) rfl w.heap.size rfl 51 CS K0.out NC.out ?_)
    refine HVL.out.mono ?_
    rintro e w1 ⟨rfl, hb1⟩
    have B1 := Lib.hid (B0.out.call hb1)
    clear hb1
    go_wp2_with fail
    go_ret
    exact ⟨_, rfl, ⟨rfl, .inl ⟨rfl, rfl⟩⟩, B1.out.1⟩
theorem hashes_small : ∀ (m : Nat) (nd : Nd), m ≤ 32 → (∀ r ∈ rfs nd, r.size < m) → nd.refs.length = 16 → nd.path.size ≤ 64 → nd.value.size ≤ 32 → HshC nd := by
  intro m
  induction m using Nat.strongRecOn with
  | ind m ih =>
    intro nd hm hr h16 hp hv
    refine hashes_step nd h16 (fun r h x hx => ?_)
    obtain ⟨h1, h2, h3, h4, h5⟩ := in_facts hx
    exact ih r.size (hr r h) x (by omega) h3 h2 h4 h5
/-- node.Hashes. -/
theorem hashes_any (nd : Nd) (h16 : nd.refs.length = 16) : HshC nd :=
  hashes_step nd h16 (fun r h x hx => by
    obtain ⟨h1, h2, h3, h4, h5⟩ := in_facts hx
    exact hashes_small r.size x (by omega) h3 h2 h4 h5)
end Go.Proofs.YtfeonjiiijdibaaGreatDoor
