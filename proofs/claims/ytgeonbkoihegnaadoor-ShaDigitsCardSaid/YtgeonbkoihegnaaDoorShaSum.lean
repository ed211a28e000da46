import Derived.Test.YtgeonbkoihegnaaDoorShaWrite
namespace Go.Proofs.YtgeonbkoihegnaaDoor
open Go.RowKit
set_option maxRecDepth 100000 in
theorem new_cells (k0 : Nat → UInt32) : (Array.foldl (fun (cs : Array Value) (x : Value × Nat) => cs.setIfInBounds x.snd x.fst) Tryd.zeroCells68 (wordVals k0 8).zipIdx 0 8) = ((List.range 74).map (hashF k0 (fun _ => 0) 0 0)).toArray := by kernel_rfl
set_option maxRecDepth 100000 in
set_option maxHeartbeats 1000000 in
theorem new_any (w : World) (hl : Laid w) :
    Calls Tryd.prog 23 #[] w fun e w' => e = .returned (.pointer (some ⟨w.heap.size, 0, none⟩)) ∧ Hs w.heap.size [] 0 w' ∧ Below w.heap.size w w' := by
  obtain ⟨⟨t0, f0, e0⟩, _⟩ := hl
  obtain ⟨k0, hk⟩ : ∃ k0 : Nat → UInt32, k0 = fun i => Sha.start.getD i 0 := ⟨_, rfl⟩
  rw [← hk] at e0
  have HK := Lib.hid hk
  have E0 := Lib.hid e0
  clear hk e0
  go_enter Tryd.func23, Tryd.ntmps23
  have hsz := size_wordVals k0 8
  go_wp2_with (refine wpList_load_row rfl 65 (.global 0) rfl 0 rfl t0 _ f0 _ E0.out Tryd.underlying65 rfl (by rw [size_wordVals]; kernel_rfl) ?_)
  go_ret
  refine ⟨rfl, ⟨fun _ => 0, ?_, fun i hi => absurd hi (Nat.not_lt_zero _)⟩, (Below.refl _ _).alloc (Nat.le_refl _) _⟩
  have : Sha.wordsOf [] = k0 := HK.out.symm
  rw [this]
  refine rowIs_of ?_
  rw [heap_alloc_last]
  exact congrArg (fun c => some (Obj.cells c 68 (0, 0))) (new_cells k0)
theorem slice_span (g u n : Nat) (hu : u < 64) (hun : u ≤ n) (hn : n ≤ 64) (W : World) : (Instr.sliceAt 66 (.pointer (some ⟨g, 8, none⟩)) (some (.int .i64 (u : Int))) (some (.int .i64 (n : Int))) none).run Tryd.prog W = .ok (.slice (some ⟨g, 8 + u, none⟩) (n - u) (64 - u)) W := by
  rw [run_sliceAt_array_lh W 66 _ arr66 .i64 .i64 _ _ (by omega) (by omega) (by rw [len66]; omega), elem66, len66]
  simp only [Result.andThen, slicedAt]
  rw [Int.toNat_natCast, Int.toNat_natCast, if_neg (by omega)]
  simp [Addr.add]
/-- 'clear' of bytes. -/
theorem wpList_clear {ops : Array Oper} {rest : List Oper} {o : Oper} {a : Act} {w : World} {Q : Exit → Act → World → Prop} (hg : o.guard = none) (d : Operand) (dT : TypeId)
    (hop : o.op = Op.call { callee := Callee.builtin Builtin.clear, args := #[d], argTypes := #[dT] }) (hu : Tryd.prog.underlying dT = some (.slice 5)) (hv : ∀ w, (zeroValue 5).run Tryd.prog w = .ok (.int .u8 0) w)
    (b off n c : Nat) (hd : a.eval d = .slice (some ⟨b, off, none⟩) n c)
    (hc : ∀ j, j < n → (w.cell? ⟨b, off + j, none⟩).isSome = true) (hf : ∀ j, j < n → w.frozen? ⟨b, off + j, none⟩ = false)
    (hK : wpList Tryd.prog ops Q rest (a.put o.dst (.tuple #[])) (w.setCells b off (List.replicate n (.int .u8 0)))) : wpList Tryd.prog ops Q (o :: rest) a w := by
  refine wpList_plain hg fun K hK' => ?_
  have hrun : (Builtin.clear_ #[dT] o.type #[.slice (some ⟨b, off, none⟩) n c]).run Tryd.prog w = .ok (.tuple #[]) (w.setCells b off (List.replicate n (.int .u8 0))) := by
    by_cases hn : n = 0
    · subst hn
      simp [Builtin.clear_, run_underlying hu, World.setCells]
    · exact Lib.run_clear_slice w dT 5 o.type (.int .u8 0) hu hv rfl rfl b off n c (by omega) hc hf
  unfold Oper.wp
  simp [execOp, hop, resolve, invoke, builtin, hd, hrun, Result.andThen]
  exact hK' _ _ hK
set_option maxRecDepth 100000 in
set_option maxHeartbeats 1000000 in
theorem blank_any (g : Nat) (ws : Nat → UInt32) (b : Nat → UInt8) (u n : Nat) (all : UInt64) (w : World) (hu : u < 64) (hun : u ≤ n) (hn : n ≤ 64) (hr : w.rowIs g 68 74 (hashF ws b u all)) :
    Calls Tryd.prog 36 #[.pointer (some ⟨g, 0, none⟩), .int .i64 (n : Int)] w fun e w' => e = .returned (.tuple #[]) ∧ w'.rowIs g 68 74 (hashF ws (Sha.lay b u (List.replicate (n - u) 0)) n all) ∧ w.grownBy w' (some g) := by
  obtain ⟨c72, z72, _, _⟩ := hash_blk hr
  have hsl := slice_span g u n hu hun hn
  have HZ : Hid (∀ w, (zeroValue 5).run Tryd.prog w = .ok (.int .u8 0) w) := fun _ => by kernel_rfl
  have HCC : Hid (∀ j, j < n - u → (w.drew.cell? ⟨g, 8 + u + j, none⟩).isSome = true) := fun j hj => by
    rw [World.cell?_drew, hr.cell (i := 8 + u + j) (by omega)]; rfl
  have HFF : Hid (∀ j, j < n - u → w.drew.frozen? ⟨g, 8 + u + j, none⟩ = false) := fun j hj => hr.frozen _
  have HL2 : Hid ((w.drew.setCells g (8 + u) (List.replicate (n - u) (.int .u8 0))).rowIs g 68 74 (hashF ws (Sha.lay b u (List.replicate (n - u) 0)) u all)) := by
    have := hash_lay (World.rowIs.drew hr) u (List.replicate (n - u) 0) (by rw [List.length_replicate]; omega)
    rw [List.map_replicate] at this
    exact this
  have HR := Lib.hid hr
  clear hr
  go_enter Tryd.func36, Tryd.ntmps36
  go_wp2_with fail
  go_still_tail 9, (by kernel_rfl)
  refine wpList_clear rfl (.tmp 12) 46 rfl Tryd.underlying46 HZ.out g (8 + u) (n - u) (64 - u) rfl HCC.out HFF.out ?_
  change wpList _ _ _ _ _ (w.drew.setCells g (8 + u) (List.replicate (n - u) (.int .u8 0)))
  obtain ⟨W, hW⟩ : ∃ W, W = w.drew.setCells g (8 + u) (List.replicate (n - u) (.int .u8 0)) := ⟨_, rfl⟩
  rw [← hW]
  have hl2 := HL2.out
  rw [← hW] at hl2
  have d72 : W.cell? ⟨g, 72, none⟩ = some (.int .i64 (u : Int)) := (hash_blk hl2).1
  have y72 : W.frozen? ⟨g, 72, none⟩ = false := (hash_blk hl2).2.1
  have hgW : w.grownBy W (some g) := by
    rw [hW]
    exact grown_cells g _ _ _ ⟨rfl, rfl, rfl, Nat.le_refl _, fun _ _ _ => rfl⟩
  have HWL := Lib.hid hl2
  have HWG := Lib.hid hgW
  clear hW hl2 hgW HL2 HR HCC HFF HZ c72 z72
  go_wp2_with fail
  go_end0
  exact ⟨rfl, hash_used HWL.out n _ rfl, grown_cell HWG.out 72 _⟩
end Go.Proofs.YtgeonbkoihegnaaDoor
