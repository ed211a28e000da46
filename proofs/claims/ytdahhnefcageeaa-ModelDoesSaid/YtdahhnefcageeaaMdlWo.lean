/-
  Package model: without.
-/
import Derived.Test.YtdahhnefcageeaaMdlFind
import Derived.Laws.MakeOwn
import Derived.Laws.OwnMore
import Derived.Laws.IdiomCopy
import Derived.Laws.CopyOwn
import Derived.Deep.RegionLaw
namespace Go.Proofs.Ytdahhnefcageeaa
open Go.RowKit Go.Proofs.Mdl
set_option linter.unusedVariables false
set_option linter.unusedSimpArgs false
theorem splice_set {α : Type} (cur : List α) (o : Nat) (v : α) (r : List α) (h : o + (r.length + 1) ≤ cur.length) : splice (cur.set o v) (o + 1) r = splice cur o (v :: r) := by
  unfold splice
  rw [List.take_set, List.drop_set, if_pos (by omega)]
  have h1 : (cur.take (o + 1)).set o v = cur.take o ++ [v] := by
    rw [List.take_succ_eq_append_getElem (by omega), List.set_append_right _ _ (by rw [List.length_take]; omega)]
    rw [List.length_take, Nat.min_eq_left (by omega), Nat.sub_self]
    rfl
  rw [h1]
  simp [Nat.add_comm, Nat.add_left_comm]
theorem Blk.setCells {k : Nat} {t : TypeId} : ∀ (vs : List Value) (o : Nat) (cur : List Value) (w : World), Blk w k t cur.toArray → o + vs.length ≤ cur.length → Blk (w.setCells k o vs) k t (splice cur o vs).toArray
  | [], o, cur, w, h, _ => by
    show Blk w k t (splice cur o []).toArray
    unfold splice
    simpa using h
  | v :: r, o, cur, w, h, hl => by
    have h1 := h.set o v
    rw [List.setIfInBounds_toArray] at h1
    have h2 := Blk.setCells r (o + 1) (cur.set o v) (w.setCell ⟨k, o, none⟩ v) h1 (by rw [List.length_set]; simp at hl; omega)
    rw [splice_set cur o v r (by simpa using hl)] at h2
    exact h2
theorem far_setCells {S : Nat → Prop} {a : World} {k : Nat} (hk : k < a.heap.size → S k) : ∀ (vs : List Value) (o : Nat) (b : World), Far S a b → Far S a (b.setCells k o vs)
  | [], _, _, h => h
  | v :: r, o, b, h => far_setCells hk r (o + 1) _ (h.setCell (p := ⟨k, o, none⟩) hk v)
theorem elemVers : Try.prog.underlying 22 = some (.slice 62) := by kernel_rfl
theorem elemVersP : Try.prog.underlying 22 = some (.slice (Try.prog.elem 22)) := by kernel_rfl
theorem sizeVersP (W : World) : (sizeOf (Try.prog.elem 22)).run Try.prog W = .ok 4 W := by kernel_rfl
def zeroVer : Value := .agg #[.int .i64 0, .slice none 0 0, .slice none 0 0, .int .i64 0]
theorem infoVers : (Try.prog.info? 62).map (fun i => (i.zero, i.size, i.bytes)) = some (some zeroVer, 4, 64) := by kernel_rfl
theorem make_vers (m : Nat) (hm : m ≤ 1000) (W : World) : (Instr.makeSlice 22 (.int .i64 (m : Int)) (.int .i64 (m : Int))).run Try.prog W = .ok (.slice (some ⟨W.heap.size, 0, none⟩) m m) (W.alloc (.cells (madeCells zeroVer.cells (m * 4)) 62)) := by
  obtain ⟨i0, hi, hz0, hz1, hz2⟩ := info_partsK infoVers
  have hr := run_make (P := Try.prog) W 22 62 i0 zeroVer elemVers hi hz0 .i64 .i64 m m (by omega) (Int.le_refl _) (by rw [hz2]; omega) (by omega)
  rw [hz1] at hr
  simpa using hr
theorem copy_vers (w : World) (ty : TypeId) (b o dLen dCap : Nat) (a : Addr) (sLen sCap m : Nat) (cs cur : List Value) (hm : m = Nat.min sLen dLen) (hl : cs.length = m * 4) (hb : Blk w b 62 cur.toArray) (ho : o + cs.length ≤ cur.length)
    (hsrc : ∀ j v, cs[j]? = some v → w.cell? (a.add j) = some v) (h1 : ∀ v ∈ cs, v.oneCell' = true) :
    (Builtin.copy_ #[22, 22] ty #[.slice (some ⟨b, o, none⟩) dLen dCap, .slice (some a) sLen sCap]).run Try.prog w = .ok (goInt m) (w.setCells b o cs) := by
  have hld := run_loadCells_list (P := Try.prog) w a cs hsrc
  have hst := run_storeCells_cells (P := Try.prog) b o cs 0 w (by
    intro j hj
    rw [hb.cell, List.getElem?_toArray, List.getElem?_eq_getElem (by omega)]; rfl) (by intro j hj; exact hb.frozen _) h1
  obtain ⟨i0, hi0, hz0, hz1, hz2⟩ := info_partsK infoVers
  rw [hl] at hld
  simp only [Nat.add_zero] at hst
  simp [Builtin.copy_, run_underlying elemVers, Builtin.lenOf, Builtin.firstCells, sizeOf, typeInfo, hi0, hz1, ← hm, hld, hst]
theorem slice_head (b o n cap k : Nat) (hk : k ≤ cap) (W : World) : (Instr.slice 22 (.slice (some ⟨b, o, none⟩) n cap) none (some (.int .i64 (k : Int))) (some (.int .i64 (k : Int)))).run Try.prog W = .ok (.slice (some ⟨b, o, none⟩) k k) W := by
  rw [run_slice_hm W 22 (some ⟨b, o, none⟩) n cap elemVersP .i64 .i64 (k : Int) (k : Int) (by omega) (by omega) (by omega), sizeVersP]
  simp [Result.andThen, sliced, Addr.add]
theorem slice_tail (b o n cap k : Nat) (hk : k < n) (hn : n ≤ cap) (W : World) : (Instr.slice 22 (.slice (some ⟨b, o, none⟩) n cap) (some (.int .i64 (k : Int))) none none).run Try.prog W = .ok (.slice (some ⟨b, o + k * 4, none⟩) (n - k) (cap - k)) W := by
  rw [run_slice_l W 22 (some ⟨b, o, none⟩) n cap elemVersP .i64 (k : Int) (by omega) (by omega), sizeVersP]
  have : ¬ cap = k := by omega
  simp [Result.andThen, sliced, Addr.add, this]
/-- copy, as one step of a region that draws. -/
theorem step_copy {ops : Array Oper} {o : Oper} {a : Act} {w : World} {K : Act → World → Prop} {Q : Exit → Act → World → Prop} {E : Prop}
    (hg : o.guard = none) (d x : Operand) (S : TypeId) (ho : o.op = .call { callee := .builtin .copy, args := #[d, x], argTypes := #[S, S] }) (v u v' : Value) (w' : World) (hd : a.eval d = v) (hx : a.eval x = u)
    (hr : (Builtin.copy_ #[S, S] o.type #[v, u]).run Try.prog w = .ok v' w') (h : K (a.put o.dst v') w') : if Region.wanted o (yielded ops a.tmps) = true then Oper.wp Try.prog o a w K Q else E := by
  have hw : Region.wanted o (yielded ops a.tmps) = true := by simp [Region.wanted, hg]
  rw [if_pos hw]
  unfold Oper.wp
  simp only [execOp, ho, resolve, invoke, builtin, Sem.run_bind, Sem.run_pure, Result.andThen_ok, List.map_toArray, List.map_cons, List.map_nil, hd, hx, hr]
  exact h
theorem Vl.of_blk {N : Nat → Prop} {w : World} {g c : Nat} {T : TypeId} {L : List Ver} {rs : List Raw} (h : Blk w g T (flatR rs).toArray) (k : Rv N w rs L) (hg : N g) (hc : L.length ≤ c) : Vl N w (.slice (some ⟨g, 0, none⟩) L.length c) L := by
  refine ⟨_, c, rs, rfl, hc, .inr ⟨g, 0, rfl, hg, h.lt, fun j x hx => ?_⟩, k⟩
  rw [h.cell, List.getElem?_toArray, Nat.zero_add]
  exact hx
theorem Vl.cells {N : Nat → Prop} {w : World} {v : Value} {L : List Ver} (h : Vl N w v L) (hl : 0 < L.length) : ∃ b o c rs, v = .slice (some ⟨b, o, none⟩) L.length c ∧ L.length ≤ c ∧ b < w.heap.size ∧ Rv N w rs L ∧ ∀ j x, (flatR rs)[j]? = some x → w.cell? ⟨b, o + j, none⟩ = some x := by
  obtain ⟨A, c, rs, h1, h2, h3, h4⟩ := h
  rcases h3.vs with h3 | ⟨b, o, rfl, hb, hc⟩
  · have := flatR_length rs
    rw [h3, h4.len, List.length_nil] at this
    omega
  · exact ⟨b, o, c, rs, h1, h2, hb, h4, hc⟩
theorem flatR_part (rs : List Raw) (i : Nat) (j : Nat) (x : Value) (h : (flatR (rs.take i))[j]? = some x) : (flatR rs)[j]? = some x := by
  have : flatR rs = flatR (rs.take i) ++ flatR (rs.drop i) := by rw [← flatR_append, List.take_append_drop]
  rw [this, List.getElem?_append_left (List.getElem?_eq_some_iff.1 h).1]
  exact h
theorem flatR_rest (rs : List Raw) (i : Nat) (hi : i ≤ rs.length) (j : Nat) (x : Value) (h : (flatR (rs.drop i))[j]? = some x) : (flatR rs)[i * 4 + j]? = some x := by
  have : flatR rs = flatR (rs.take i) ++ flatR (rs.drop i) := by rw [← flatR_append, List.take_append_drop]
  have hl : (flatR (rs.take i)).length = i * 4 := by rw [flatR_length, List.length_take, Nat.min_eq_left hi]
  rw [this, List.getElem?_append_right (by omega), hl, Nat.add_sub_cancel_left]
  exact h
set_option maxRecDepth 100000 in
set_option maxHeartbeats 400000 in
theorem without_any {N : Nat → Prop} {w : World} {v : Value} {L : List Ver} {i : Nat} (h : Vl N w v L) (hi : i + 1 < L.length) (hl : L.length ≤ 1000) :
    Calls Try.prog 69 #[v, .int .i64 (i : Int)] w fun e w' => ∃ v', e = .returned v' ∧ Vl (fun b => N b ∨ w.heap.size ≤ b) w' v' (L.eraseIdx i) ∧ Below w.heap.size w w' := by
  obtain ⟨b, o, c, rs, rfl, hc, hb, hr, hcell⟩ := h.cells (by omega)
  obtain ⟨m, hm⟩ : ∃ m, L.length = m + 1 := ⟨L.length - 1, by omega⟩
  obtain ⟨z, hz⟩ : ∃ z, z = L.length := ⟨_, rfl⟩
  have hmk := make_vers m (by omega) w
  obtain ⟨Z, hZ⟩ : ∃ Z : List Value, madeCells zeroVer.cells (m * 4) = Z.toArray := ⟨_, (Array.toArray_toList).symm⟩
  have hZl : Z.length = m * 4 := by have := congrArg Array.size hZ; rw [size_madeCells] at this; simpa using this.symm
  rw [hZ] at hmk
  have b1 : Below w.heap.size w (w.alloc (.cells Z.toArray 62)) := (Below.refl _ _).alloc (Nat.le_refl _) _
  have k1 := Blk.new w 62 Z.toArray
  obtain ⟨c1, hc1⟩ : ∃ c1, c1 = flatR (rs.take i) := ⟨_, rfl⟩
  obtain ⟨c2, hc2⟩ : ∃ c2, c2 = flatR (rs.drop (i + 1)) := ⟨_, rfl⟩
  have l1 : c1.length = i * 4 := by rw [hc1, flatR_length, List.length_take, hr.len, Nat.min_eq_left (by omega)]
  have l2 : c2.length = (m - i) * 4 := by rw [hc2, flatR_length, List.length_drop, hr.len, hm]; congr 1; omega
  have one := hr.one
  have o1 : ∀ v ∈ c1, v.oneCell' = true := fun v hv => (hr.take i).one v (by rw [← hc1]; exact hv)
  have o2 : ∀ v ∈ c2, v.oneCell' = true := fun v hv => (hr.drop (i + 1)).one v (by rw [← hc2]; exact hv)
  have hcp1 := fun ty => copy_vers (w.alloc (.cells Z.toArray 62)) ty w.heap.size 0 m m ⟨b, o, none⟩ i i i c1 Z (Nat.min_eq_left (by omega)).symm l1 k1 (by rw [l1, hZl, Nat.zero_add]; exact Nat.mul_le_mul_right 4 (by omega)) (fun j x hx => by
    rw [Addr.add_mid]
    refine (b1.cell (p := ⟨b, _, none⟩) hb).trans (hcell j x (flatR_part rs i j x ?_))
    rw [← hc1]; exact hx) o1
  have k2 := Blk.setCells c1 0 Z _ k1 (by rw [l1, hZl, Nat.zero_add]; exact Nat.mul_le_mul_right 4 (by omega))
  have f2 := far_setCells (S := fun g => g = w.heap.size) (k := w.heap.size) (fun _ => rfl) c1 0 _ (Far.refl _ (w.alloc (.cells Z.toArray 62)))
  obtain ⟨W2, hW2⟩ : ∃ W2, W2 = (w.alloc (.cells Z.toArray 62)).setCells w.heap.size 0 c1 := ⟨_, rfl⟩
  rw [← hW2] at hcp1 k2 f2
  have bw2 := Far.bl ((Bl.start w).alloc (.cells Z.toArray 62)) f2 (fun g e => Nat.le_of_eq e.symm)
  have sl2 : (splice Z 0 c1).length = m * 4 := by rw [length_splice _ _ _ (by rw [l1, hZl, Nat.zero_add]; exact Nat.mul_le_mul_right 4 (by omega)), hZl]
  have hfit : i * 4 + c2.length ≤ (splice Z 0 c1).length := by
    rw [l2, sl2, ← Nat.add_mul]
    exact Nat.mul_le_mul_right 4 (by omega)
  have hcp2 : ∀ ty, (Builtin.copy_ #[22, 22] ty #[.slice (some ⟨w.heap.size, i * 4, none⟩) (m - i) (m - i), .slice (some ⟨b, o + (i + 1) * 4, none⟩) (z - (i + 1)) (c - (i + 1))]).run Try.prog W2.drew = .ok (goInt ((m - i : Nat) : Int)) (W2.drew.setCells w.heap.size (i * 4) c2) := fun ty =>
    copy_vers W2.drew ty w.heap.size (i * 4) (m - i) (m - i) ⟨b, o + (i + 1) * 4, none⟩ (z - (i + 1)) (c - (i + 1)) (m - i) c2 _ (by rw [hz, hm, Nat.add_sub_add_right]; exact (Nat.min_self _).symm) l2 (k2.drewN 1) hfit (fun j x hx => by
      rw [Addr.add_mid]
      refine (bw2.1.drew.cell (p := ⟨b, _, none⟩) hb).trans ?_
      rw [Nat.add_assoc]
      refine hcell _ x (flatR_rest rs (i + 1) (by rw [hr.len]; omega) j x ?_)
      rw [← hc2]; exact hx) o2
  have k3 := Blk.setCells c2 (i * 4) _ W2.drew (k2.drewN 1) hfit
  have f3 := far_setCells (S := fun g => g = w.heap.size) (k := w.heap.size) (fun _ => rfl) c2 (i * 4) _ ((Far.refl (fun g => g = w.heap.size) W2).drew)
  have bw3 := Far.bl bw2 f3 (fun g e => Nat.le_of_eq e.symm)
  have hfin : splice (splice Z 0 c1) (i * 4) c2 = flatR (rs.eraseIdx i) := by
    unfold splice
    rw [List.eraseIdx_eq_take_drop_succ, flatR_append, ← hc1, ← hc2]
    have e1 : (List.take 0 Z ++ (c1 ++ Z.drop (0 + c1.length))).take (i * 4) = c1 := by
      rw [List.take_zero, List.nil_append, List.take_append_of_le_length (by omega)]
      exact List.take_of_length_le (by omega)
    rw [e1]
    have e2 : (List.take 0 Z ++ (c1 ++ Z.drop (0 + c1.length))).drop (i * 4 + c2.length) = [] := by
      refine List.drop_eq_nil_of_le ?_
      have := sl2
      unfold splice at this
      rw [this, l2, ← Nat.add_mul]
      exact Nat.mul_le_mul_right 4 (by omega)
    rw [e2, List.append_nil]
  rw [hfin] at k3
  have HR : Hid (Rv (fun b => N b ∨ w.heap.size ≤ b) w (rs.eraseIdx i) (L.eraseIdx i)) := Lib.hid (by
    rw [List.eraseIdx_eq_take_drop_succ, List.eraseIdx_eq_take_drop_succ]
    exact ((hr.take i).append (hr.drop (i + 1))).mono (fun b h _ => .inl h))
  have s1 := Lib.hid (slice_head b o z c i (by omega))
  have s2 := Lib.hid (slice_tail w.heap.size 0 m m i (by omega) (Nat.le_refl _))
  have s3 := Lib.hid (slice_tail b o z c (i + 1) (by omega) (by omega))
  have wz : IntKind.i64.wrap ((z : Int) - 1) = (m : Int) := by rw [show (z : Int) - 1 = (m : Int) by omega]; exact IntWalk.i64_in _ (by omega)
  have wi : IntKind.i64.wrap ((i : Int) + 1) = (i : Int) + 1 := IntWalk.i64_in _ (by omega)
  have HC2 := Lib.hid hcp2
  have K3 := Lib.hid k3
  have BW3 := Lib.hid bw3
  have LE : Hid ((L.eraseIdx i).length ≤ m) := Lib.hid (by rw [List.length_eraseIdx]; split <;> omega)
  have LE2 : Hid ((L.eraseIdx i).length = m) := Lib.hid (by rw [List.length_eraseIdx, if_pos (by omega)]; omega)
  rw [← hz]
  have g1 := s1.out
  simp only [Nat.zero_add] at s2
  clear h hc hb hr hcell hm hZ hZl b1 k1 hc1 hc2 l1 l2 one o1 o2 f2 k2 bw2 sl2 hfit hcp2 k3 f3 bw3 hfin s1 hz
  go_enter Try.func69, Try.ntmps69
  go_upto_region 3 with (fail)
  rw [← hW2]
  clear hmk hcp1 hW2 g1
  have g2 := s2.out
  have g3 : ∀ W : World, (Instr.slice 22 (.slice (some ⟨b, o, none⟩) z c) (some (.int .i64 ((i : Int) + 1))) none none).run Try.prog W = .ok (.slice (some ⟨b, o + (i + 1) * 4, none⟩) (z - (i + 1)) (c - (i + 1))) W := fun W => s3.out W
  go_region_law (refine step_copy rfl (.tmp 19) (.tmp 23) 22 rfl (.slice (some ⟨w.heap.size, i * 4, none⟩) (m - i) (m - i)) (.slice (some ⟨b, o + (i + 1) * 4, none⟩) (z - (i + 1)) (c - (i + 1))) _ _ (by simp [Act.eval, Act.put]) (by simp [Act.eval, Act.put]) (HC2.out _) ?_)
  go_wp2_with fail
  go_ret
  refine ⟨_, rfl, ?_, BW3.out.1⟩
  have h1 := Vl.of_blk K3.out (HR.out.below BW3.out.1) (.inr (Nat.le_refl _)) (Nat.le_of_eq LE2.out)
  rw [LE2.out] at h1
  exact h1
end Go.Proofs.Ytdahhnefcageeaa
