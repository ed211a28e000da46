/-
  The document's answer for cache (guillocheref07): first.
-/
import Derived.Test.YtplahkhohhbgaaaCacheRf1
namespace Go.Proofs.Ytplahkhohhbgaaa
open Go.RowKit Go.Proofs.Cch
set_option linter.unusedVariables false
set_option linter.unusedSimpArgs false
theorem flat2_snoc (l : List (Value × Value)) (t : Value × Value) : flat2 (l ++ [t]) = flat2 l ++ [t.1, t.2] := by rw [flat2_append]; rfl
/-- append of pairs at an operation of a region that is walked in its order. -/
theorem wpList_append_two {ops : Array Oper} {rest : List Oper} {o : Oper} {a : Act} {Q : Exit → Act → World → Prop} {W : World} {T S : TypeId} {z : Value} {bytes : Nat} (hU : Try.prog.underlying S = some (.slice T)) (hI : (Try.prog.info? T).map (fun i => (i.zero, i.size, i.bytes)) = some (some z, 2, bytes)) (hz : z.cells.size = 2) (hby : 0 < bytes) (hby2 : bytes ≤ 100)
    (hg : Region.wanted o (yielded ops a.tmps) = true) (s x : Operand) (ho : o.op = .call { callee := .builtin .append, args := #[s, x], argTypes := #[S, S] }) (hty : o.type = S) (base : Nat) (v : Value) (n : Nat) (xs : List Value) (b oo m c : Nat) (ys : List Value) (hs : a.eval s = v) (hx : a.eval x = .slice (some ⟨b, oo, none⟩) m c)
    (hown : W.ownsRow base T 2 v n xs) (hy : ys.length = m * 2) (hc : ∀ j y, ys[j]? = some y → W.cell? ⟨b, oo + j, none⟩ = some y) (ho1 : ∀ y ∈ ys, y.oneCell' = true) (hm : n + m ≤ 1000000) (hb : base ≤ W.heap.size)
    (h : ∀ v' w', w'.ownsRow base T 2 v' (n + m) (xs ++ ys) → W.grownBy w' v.ownBlock → wpList Try.prog ops Q rest (a.put o.dst v') w') : wpList Try.prog ops Q (o :: rest) a W := by
  obtain ⟨v', w', h1, h2, h3, h4⟩ := append_two hU hI hz hby hby2 W base v n xs hown b oo m c ys hy hc ho1 hm hb
  unfold wpList
  rw [if_pos hg]
  left
  unfold Oper.wp execOp
  simp only [ho, hty, resolve, invoke, builtin, Sem.run_bind, Sem.run_pure, Result.andThen_ok, List.map_toArray, List.map_cons, List.map_nil, hs, hx, h1]
  exact h v' w' h2 h3
/-- .. as one step of a region that draws. -/
theorem step_append_two {ops : Array Oper} {o : Oper} {a : Act} {W : World} {K : Act → World → Prop} {Q : Exit → Act → World → Prop} {E : Prop} {T S : TypeId} {z : Value} {bytes : Nat} (hU : Try.prog.underlying S = some (.slice T)) (hI : (Try.prog.info? T).map (fun i => (i.zero, i.size, i.bytes)) = some (some z, 2, bytes)) (hz : z.cells.size = 2) (hby : 0 < bytes) (hby2 : bytes ≤ 100)
    (hg : o.guard = none) (s x : Operand) (ho : o.op = .call { callee := .builtin .append, args := #[s, x], argTypes := #[S, S] }) (hty : o.type = S) (base : Nat) (v : Value) (n : Nat) (xs : List Value) (b oo m c : Nat) (ys : List Value) (hs : a.eval s = v) (hx : a.eval x = .slice (some ⟨b, oo, none⟩) m c)
    (hown : W.ownsRow base T 2 v n xs) (hy : ys.length = m * 2) (hc : ∀ j y, ys[j]? = some y → W.cell? ⟨b, oo + j, none⟩ = some y) (ho1 : ∀ y ∈ ys, y.oneCell' = true) (hm : n + m ≤ 1000000) (hb : base ≤ W.heap.size)
    (h : ∀ v' w', w'.ownsRow base T 2 v' (n + m) (xs ++ ys) → W.grownBy w' v.ownBlock → K (a.put o.dst v') w') :
    if Region.wanted o (yielded ops a.tmps) = true then Oper.wp Try.prog o a W K Q else E := by
  obtain ⟨v', w', h1, h2, h3, h4⟩ := append_two hU hI hz hby hby2 W base v n xs hown b oo m c ys hy hc ho1 hm hb
  have hw : Region.wanted o (yielded ops a.tmps) = true := by simp [Region.wanted, hg]
  rw [if_pos hw]
  unfold Oper.wp
  simp only [execOp, ho, hty, resolve, invoke, builtin, Sem.run_bind, Sem.run_pure, Result.andThen_ok, List.map_toArray, List.map_cons, List.map_nil, hs, hx, h1]
  exact h v' w' h2 h3
/-- A pair that was just laid reads so. -/
theorem pair_cells (W : World) (T : TypeId) (x y : Value) : ∀ j u, [x, y][j]? = some u → (W.alloc (.cells #[x, y] T)).cell? ⟨W.heap.size, 0 + j, none⟩ = some u := by
  intro j u h
  rw [Nat.zero_add, World.cell?_alloc_new, List.getElem?_toArray]
  exact h
theorem lit_pair (W : World) (T : TypeId) (x y : Value) (N : Nat) (hN : W.heap.size = N) : (W.alloc (.cells #[x, y] T)).ownsRow N T 2 (.slice (some ⟨N, 0, none⟩) 1 1) 1 [x, y] := by
  subst hN
  exact ⟨rfl, .inr ⟨W.heap.size, 1, #[x, y], rfl, Nat.le_refl _, (by show (W.heap.push _)[W.heap.size]? = some _; simp), Nat.le_refl _, by simp [maxLen], rfl, rfl⟩⟩
theorem lit_none (W : World) (T : TypeId) (N : Nat) (hN : W.heap.size = N) : (W.alloc (.cells #[] T)).ownsRow N T 2 (.slice (some ⟨N, 0, none⟩) 0 0) 0 [] := by
  subst hN
  exact ⟨rfl, .inr ⟨W.heap.size, 0, #[], rfl, Nat.le_refl _, (by show (W.heap.push _)[W.heap.size]? = some _; simp), Nat.le_refl _, by simp [maxLen], rfl, rfl⟩⟩
/-- Four cells are stored into a box. -/
theorem end4 {w W : World} {B0 g : Nat} {T : TypeId} {a0 b0 c0 d0 : Value} (B : Blk W g T #[a0, b0, c0, d0]) (hB : Bl B0 w W) (hg : B0 ≤ g) (a b c d : Value) :
    Blk ((((W.setCell ⟨g, 0, none⟩ a).setCell ⟨g, 1, none⟩ b).setCell ⟨g, 2, none⟩ c).setCell ⟨g, 3, none⟩ d) g T #[a, b, c, d] ∧ Bl B0 w ((((W.setCell ⟨g, 0, none⟩ a).setCell ⟨g, 1, none⟩ b).setCell ⟨g, 2, none⟩ c).setCell ⟨g, 3, none⟩ d) ∧
    Far (fun i => i = g) W ((((W.setCell ⟨g, 0, none⟩ a).setCell ⟨g, 1, none⟩ b).setCell ⟨g, 2, none⟩ c).setCell ⟨g, 3, none⟩ d) := by
  refine ⟨?_, (((hB.setCell (p := ⟨g, 0, none⟩) hg a).setCell (p := ⟨g, 1, none⟩) hg b).setCell (p := ⟨g, 2, none⟩) hg c).setCell (p := ⟨g, 3, none⟩) hg d,
    ((((Far.refl (fun i => i = g) W).setCell (p := ⟨g, 0, none⟩) (fun _ => rfl) a).setCell (p := ⟨g, 1, none⟩) (fun _ => rfl) b).setCell (p := ⟨g, 2, none⟩) (fun _ => rfl) c).setCell (p := ⟨g, 3, none⟩) (fun _ => rfl) d⟩
  have := (((B.set 0 a).set 1 b).set 2 c).set 3 d
  simpa using this
theorem filter_snoc {α : Type} (p : α → Bool) (l : List α) (x : α) : (l ++ [x]).filter p = l.filter p ++ if p x = true then [x] else [] := by
  rw [List.filter_append]
  congr 1
  by_cases h : p x = true <;> simp [h]
def firstF (ts : Things) (x : ByteArray × ByteArray) : Things := x :: ts.filter (fun y => ¬ y.1 = x.1)
set_option maxRecDepth 100000 in
set_option maxHeartbeats 1000000 in
theorem rcfirst_any (z : Int) (vA : Value) (C : Option Addr) (mC cC : Nat) (ts : Things) (ak : Int) (x : ByteArray × ByteArray) (w : World) (hA : Rp w vA (pT ts)) (hl : ts.length ≤ 1000) :
    Calls Try.prog 47 #[.agg #[.int .i64 z, vA, (.slice C mC cC), .int .i64 ak], .agg #[.string x.1, .string x.2]] w fun e w' => ∃ v', e = .returned (.agg #[.int .i64 z, v', (.slice C mC cC), .int .i64 ak]) ∧ Rp w' v' (pT (firstF ts x)) ∧ Below w.heap.size w w' := by
  obtain ⟨A, c, rfl, hT, _, _⟩ := hA
  rw [pT_length]
  obtain ⟨x1, x2⟩ := x
  dsimp only
  obtain ⟨N, hN⟩ : ∃ N, N = w.heap.size := ⟨_, rfl⟩
  obtain ⟨Z, hZ⟩ : ∃ Z : Array Value, Z = #[.int .i64 0, .slice none 0 0, .slice none 0 0, .int .i64 0] := ⟨_, rfl⟩
  obtain ⟨W3, hW3⟩ : ∃ W, W = ((w.alloc (.cells #[.int .i64 z, .slice A ts.length c, (.slice C mC cC), .int .i64 ak] 30)).alloc (.cells #[.string x1, .string x2] 79)).alloc (.cells #[.int .i64 0, .slice none 0 0, .slice none 0 0, .int .i64 0] 30) := ⟨_, rfl⟩
  have hs3 : W3.heap.size = N + 1 + 1 + 1 := by rw [hW3, hN]; simp
  have b0 : Blk W3 N 30 #[.int .i64 z, .slice A ts.length c, (.slice C mC cC), .int .i64 ak] := by rw [hW3, hN]; exact ((Blk.new w _ _).alloc _).alloc _
  have b1 : Blk W3 (N + 1) 79 #[.string x1, .string x2] := by
    rw [hW3, hN]
    have := Blk.new (w.alloc (.cells #[.int .i64 z, .slice A ts.length c, (.slice C mC cC), .int .i64 ak] 30)) 79 #[.string x1, .string x2]
    rw [show (w.alloc (.cells #[.int .i64 z, .slice A ts.length c, (.slice C mC cC), .int .i64 ak] 30)).heap.size = w.heap.size + 1 by simp] at this
    exact this.alloc _
  have b2 : Blk W3 (N + 1 + 1) 30 #[.int .i64 0, .slice none 0 0, .slice none 0 0, .int .i64 0] := by
    rw [hW3, hN]
    have := Blk.new ((w.alloc (.cells #[.int .i64 z, .slice A ts.length c, (.slice C mC cC), .int .i64 ak] 30)).alloc (.cells #[.string x1, .string x2] 79)) 30 #[.int .i64 0, .slice none 0 0, .slice none 0 0, .int .i64 0]
    simpa using this
  have b3 : Bl N w W3 := by rw [hW3, hN]; exact (((Bl.start w).alloc _).alloc _).alloc _
  have hT3 : Tp W3 A (pT ts) := hT.below (by rw [← hN]; exact b3.1)
  have HW3 := Lib.hid hW3
  have HN := Lib.hid hN
  have B0 := Lib.hid b0
  have B1 := Lib.hid b1
  have B2 := Lib.hid b2
  have B3 := Lib.hid b3
  have HT := Lib.hid hT3
  have HS3 := Lib.hid hs3
  clear hN hZ hW3 b0 b1 b2 b3 hT hT3 hs3
  go_enter Try.func47, Try.ntmps47
  go_wp2_with fail
  rw [← HW3.out, ← HN.out]
  go_loopw [5, 6] (fun vl vi wr => ∃ k : Nat, vi = .int .i64 (k : Int) ∧ k ≤ ts.length ∧ Hid (wr.ownsRow (N + 1 + 1 + 1) 79 2 vl (pT (firstF (ts.take k) (x1, x2))).length (flat2 (pT (firstF (ts.take k) (x1, x2))))) ∧ Hid (Bl (N + 1 + 1 + 1) W3 wr)) (fun _ vi _ => ts.length - (intOf vi).toNat)
  case atStart => exact ⟨0, rfl, Nat.zero_le _, Lib.hid (lit_pair W3 _ _ _ _ HS3.out), Lib.hid (by have := (Bl.start W3).alloc (.cells #[.string x1, .string x2] 79); rw [HS3.out] at this; exact this)⟩
  case round =>
    obtain ⟨k, rfl, hk, HO, HBL⟩ := hrel
    have HB3 : Hid (Below W3.heap.size W3 wr) := Lib.hid (by have := HBL.out.1; rw [HS3.out]; exact this)
    have C0 := Lib.hid (B0.out.below HB3.out)
    have C1 := Lib.hid (B1.out.below HB3.out)
    have C2 := Lib.hid (B2.out.below HB3.out)
    have e1 : wr.cell? ⟨N, 1, none⟩ = some (.slice A ts.length c) := by rw [C0.out.cell]; rfl
    by_cases hlt : k < ts.length
    · obtain ⟨⟨s, n⟩, hx⟩ : ∃ x, ts[k]? = some x := ⟨_, List.getElem?_eq_getElem hlt⟩
      obtain ⟨b, o, rfl, hbl, d0, d1⟩ := (HT.out.below HB3.out).at_ k _ (pT_at hx)
      simp only at d0 d1
      have e2 : wr.cell? ⟨N + 1, 0, none⟩ = some (.string x1) := by rw [C1.out.cell]; rfl
      have hst : ts.take (k + 1) = ts.take k ++ [(s, n)] := by rw [List.take_add_one, hx]; rfl
      have i1 : (k : Int) < (ts.length : Int) := by omega
      have wk : IntKind.i64.wrap ((k : Int) + 1) = (k : Int) + 1 := IntWalk.i64_in _ (by omega)
      have hfl : (pT (firstF (ts.take k) (x1, x2))).length ≤ 1001 := by
        rw [pT_length]; unfold firstF
        have := List.length_filter_le (fun y : ByteArray × ByteArray => decide (¬ y.1 = x1)) (ts.take k)
        rw [List.length_take] at this
        simp only [List.length_cons]; omega
      have HST := Lib.hid hst
      clear hst hx
      by_cases hs : s = x1
      · have hbe : (s.toList == x1.toList) = true := by rw [bytes_eq]; simp [hs]
        have hbe2 : (s.toList != x1.toList) = false := by rw [bne, hbe]; rfl
        have HF := Lib.hid (show firstF (ts.take (k + 1)) (x1, x2) = firstF (ts.take k) (x1, x2) by unfold firstF; rw [HST.out, filter_snoc, if_neg (by simp [hs]), List.append_nil])
        clear hs
        go_wp2_with fail
        go_quiet (fail)
        go_wp2_with fail
        refine ⟨⟨k + 1, by go_num, by omega, Lib.hid (by rw [HF.out]; exact own_drewN HO.out _), Lib.hid (HBL.out.drewN _)⟩, by simp [intOf]; omega⟩
      · have hbe : (s.toList == x1.toList) = false := by rw [bytes_eq]; simp [hs]
        have hbe2 : (s.toList != x1.toList) = true := by rw [bne, hbe]; rfl
        have HF := Lib.hid (show firstF (ts.take (k + 1)) (x1, x2) = firstF (ts.take k) (x1, x2) ++ [(s, n)] by unfold firstF; rw [HST.out, filter_snoc, if_pos (by simpa using hs)]; rfl)
        clear hs
        go_wp2_with fail
        go_quiet (fail)
        have HO2 := Lib.hid (own_drewN HO.out nq)
        have HBL2 := Lib.hid (HBL.out.drewN nq)
        have e1' : (wr.drewN nq).cell? ⟨N, 1, none⟩ = some (.slice (some ⟨b, o, none⟩) ts.length c) := by rw [← e1]; rfl
        have d0' : (wr.drewN nq).cell? ⟨b, o + k * 2, none⟩ = some (.string s) := by rw [← d0]; rfl
        have d1' : (wr.drewN nq).cell? ⟨b, o + k * 2 + 1, none⟩ = some (.string n) := by rw [← d1]; rfl
        clear e1 e2 d0 d1 HO HBL C0 C1 C2 HB3
        generalize wr.drewN nq = WD at *
        have HFL := Lib.hid hfl
        clear hfl
        go_wp2_with (at_builtin; (refine wpList_append_two Try.underlying27 infoRefThing rfl (by decide) (by decide) rfl _ _ rfl rfl (N + 1 + 1 + 1) _ _ _ _ 0 1 1 [.string s, .string n] rfl rfl (World.ownsRow.alloc HO2.out _) rfl (pair_cells _ _ _ _) (by intro y hy; simp at hy; rcases hy with rfl | rfl <;> rfl) (by have := HFL.out; omega) (HBL2.out.alloc _).2 ?_; intro v5 w5 own5 gr5; have b5 := (HBL2.out.alloc _).grownRow (World.ownsRow.alloc HO2.out _) (Nat.le_refl _) gr5; have B5 := Lib.hid b5; have O5 := Lib.hid own5; clear own5 gr5 b5))
        refine ⟨⟨k + 1, by go_num, by omega, Lib.hid ?_, B5⟩, by simp [intOf]; omega⟩
        rw [HF.out, pT_append, flat2_append, List.length_append]
        exact O5.out
    · obtain rfl : k = ts.length := by omega
      rw [List.take_length] at HO
      have hO := HO.out
      obtain ⟨A', c', hv, _⟩ := Rp.of_own hO
      subst hv
      obtain ⟨LL, hLL⟩ : ∃ l, l = pT (firstF ts (x1, x2)) := ⟨_, rfl⟩
      rw [← hLL] at hO ⊢
      have HLL := Lib.hid hLL
      have e0 : wr.cell? ⟨N, 0, none⟩ = some (.int .i64 z) := by rw [C0.out.cell]; rfl
      have e2 : wr.cell? ⟨N, 2, none⟩ = some (.slice C mC cC) := by rw [C0.out.cell]; rfl
      have e3 : wr.cell? ⟨N, 3, none⟩ = some (.int .i64 ak) := by rw [C0.out.cell]; rfl
      have f1 := C0.out.frozen 1
      have r0 : wr.cell? ⟨N + 1 + 1, 0, none⟩ = some (.int .i64 0) := by rw [C2.out.cell]; rfl
      have r1 : wr.cell? ⟨N + 1 + 1, 1, none⟩ = some (.slice none 0 0) := by rw [C2.out.cell]; rfl
      have r2 : wr.cell? ⟨N + 1 + 1, 2, none⟩ = some (.slice none 0 0) := by rw [C2.out.cell]; rfl
      have r3 : wr.cell? ⟨N + 1 + 1, 3, none⟩ = some (.int .i64 0) := by rw [C2.out.cell]; rfl
      have g0 := C2.out.frozen 0
      have g1 := C2.out.frozen 1
      have g2 := C2.out.frozen 2
      have g3 := C2.out.frozen 3
      have k2 := C2.out.other (p := ⟨N, 1, none⟩) (by simp; omega) (.slice A' LL.length c')
      have hbl := B3.out.call HB3.out
      have h4 := end4 k2 (hbl.setCell (p := ⟨N, 1, none⟩) (Nat.le_refl _) (.slice A' LL.length c')) (by omega) (.int .i64 z) (.slice A' LL.length c') (.slice C mC cC) (.int .i64 ak)
      have F1 : Far (fun i => i = N) wr (wr.setCell ⟨N, 1, none⟩ (.slice A' LL.length c')) := (Far.refl (fun i => i = N) wr).setCell (p := ⟨N, 1, none⟩) (fun _ => rfl) (.slice A' LL.length c')
      have hown : ∀ i, (Value.slice A' LL.length c').ownBlock = some i → N + 1 + 1 + 1 ≤ i := fun i hi => (hO.lt i hi).1
      have h5 := own_far (own_far hO F1 (fun i hi e => by have := hown i hi; omega)) h4.2.2 (fun i hi e => by have := hown i hi; omega)
      have H4 := Lib.hid h4
      have H5 := Lib.hid h5
      clear hO hLL k2 hbl h4 h5 F1 hown HO
      go_wp2_with fail
      refine bodyPost_ret (results_c1 rfl _ _ _ rfl H4.out.1.four) rfl ⟨_, rfl, by rw [← HLL.out]; exact Rp.of_own H5.out, ?_⟩
      have := H4.out.2.1.1
      rw [← HN.out]
      exact this
end Go.Proofs.Ytplahkhohhbgaaa
