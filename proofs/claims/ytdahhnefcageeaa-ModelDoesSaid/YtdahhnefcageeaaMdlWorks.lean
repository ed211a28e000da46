/-
  works of guillochelaw14 (written by makers/mdlworks.py).
-/
import Derived.Test.YtdahhnefcageeaaMdlWkP
import Derived.Test.YtdahhnefcageeaaMdlFew
namespace Go.Proofs.Ytdahhnefcageeaa
open Go.RowKit Go.Proofs.Mdl
set_option linter.unusedVariables false
set_option linter.unusedSimpArgs false
theorem one_chg (w : World) : Cs (w.alloc (.cells #[.string kA, .string vA, .bool false] 67)) (.slice (some ⟨w.heap.size, 0, none⟩) 1 1) [cA] := by
  refine ⟨_, 1, rfl, Nat.le_refl _, .inr ⟨w.heap.size, 0, rfl, by simp, fun j x hj => ?_⟩⟩
  exact new_cells w 67 [.string kA, .string vA, .bool false] j x hj
theorem few0 : ∀ V ∈ M0.all, V.e.length ≤ 1000 ∧ V.c.length ≤ 1000 := by decide
theorem fewA : ∀ V ∈ MA.all, V.e.length ≤ 1000 ∧ V.c.length ≤ 1000 := by decide
theorem fewP : ∀ V ∈ MP.all, V.e.length ≤ 1000 ∧ V.c.length ≤ 1000 := by decide
theorem fewB : ∀ V ∈ MB.all, V.e.length ≤ 1000 ∧ V.c.length ≤ 1000 := by decide
theorem few0e : ∀ V ∈ M0.all, V.e.length ≤ 1000 := by decide
theorem fewAe : ∀ V ∈ MA.all, V.e.length ≤ 1000 := by decide
theorem fewBe : ∀ V ∈ MB.all, V.e.length ≤ 1000 := by decide
/-- A box that holds a model. -/
structure Bm (w : World) (g : Nat) (A : Option Addr) (c : Nat) (M : Mod) : Prop where
  blk : Blk w g 24 #[.int .i64 M.w, .int .i64 M.n, .slice A M.all.length c]
  md : Md (fun _ => True) w (.agg #[.int .i64 M.w, .int .i64 M.n, .slice A M.all.length c]) M
theorem Bm.below {w w' : World} {g : Nat} {A : Option Addr} {c : Nat} {M : Mod} (h : Bm w g A c M) (b : Below w.heap.size w w') : Bm w' g A c M := ⟨h.blk.below b, h.md.below b⟩
theorem Bm.new {N : Nat → Prop} {w : World} {A : Option Addr} {c : Nat} {M : Mod} (h : Md N w (.agg #[.int .i64 M.w, .int .i64 M.n, .slice A M.all.length c]) M) : Bm (w.alloc (.cells #[.int .i64 M.w, .int .i64 M.n, .slice A M.all.length c] 24)) w.heap.size A c M :=
  ⟨Blk.new w _ _, (h.mono (fun _ _ _ => trivial)).below ((Below.refl _ _).alloc (Nat.le_refl _) _)⟩
set_option maxRecDepth 100000 in
set_option maxHeartbeats 1500000 in
theorem works_any (w : World) : Calls Try.prog 9 #[] w fun e w' => e = .returned (.bool true) ∧ Below w.heap.size w w' := by
  have NW := Lib.hid (fun W => new_any 1 W)
  rw [wk_new] at NW
  go_enter Try.func9, Try.ntmps9
  go_upto_region 2 with (go_at_call 25; refine (NW.out w).mono ?_; rintro e w1 ⟨v1, rfl, hmd, hb⟩; obtain ⟨u1, hv1, hvl1⟩ := hmd; obtain ⟨A1, c1, hs1⟩ := hvl1.shape; subst hs1; subst hv1; have MD1 := Lib.hid (show Md _ w1 (.agg #[.int .i64 M0.w, .int .i64 M0.n, .slice A1 M0.all.length c1]) M0 from ⟨_, rfl, hvl1⟩); have HB1 := Lib.hid hb; clear hb hvl1)
  have bl1 : Below w1.heap.size w1 (w1.alloc (.cells #[.int .i64 M0.w, .int .i64 M0.n, .slice A1 M0.all.length c1] 24)) := (Below.refl _ _).alloc (Nat.le_refl _) _
  have BW := Lib.hid (((Bl.start w).call HB1.out).call bl1)
  have G1 := Lib.hid (Bm.new MD1.out)
  clear bl1
  generalize w1.alloc (.cells #[.int .i64 M0.w, .int .i64 M0.n, .slice A1 M0.all.length c1] 24) = x1 at *
  generalize w1.heap.size = g1 at *
  have a10 := G1.out.blk.cell 0
  have a11 := G1.out.blk.cell 1
  have a12 := G1.out.blk.cell 2
  simp only [List.getElem?_toArray, List.getElem?_cons_succ, List.getElem?_cons_zero] at a10 a11 a12
  have bx2 : Below x1.heap.size x1 (x1.alloc (.cells #[.string kA, .string vA, .bool false] 67)) := (Below.refl _ _).alloc (Nat.le_refl _) _
  have CM := Lib.hid (commit_any (G1.out.md.below bx2) (one_chg x1) (by decide) few0 (by decide))
  rw [wk_a] at CM
  simp only at CM
  go_upto_region 3 with (go_at_call 30; refine (CM.out).mono ?_; rintro e w2 ⟨v2, rfl, hmd, hb⟩; obtain ⟨u2, hv2, hvl2⟩ := hmd; obtain ⟨A2, c2, hs2⟩ := hvl2.shape; subst hs2; subst hv2; have MD2 := Lib.hid (show Md _ w2 (.agg #[.int .i64 MA.w, .int .i64 MA.n, .slice A2 MA.all.length c2]) MA from ⟨_, rfl, hvl2⟩); have HB2 := Lib.hid hb; clear hb hvl2 a10 a11 a12)
  have bl2 : Below w2.heap.size w2 (w2.alloc (.cells #[.int .i64 MA.w, .int .i64 MA.n, .slice A2 MA.all.length c2] 24)) := (Below.refl _ _).alloc (Nat.le_refl _) _
  have BW := Lib.hid (((BW.out.alloc (.cells #[.string kA, .string vA, .bool false] 67)).call HB2.out).call bl2)
  have G1 := Lib.hid (((G1.out.below bx2).below HB2.out).below bl2)
  have G2 := Lib.hid (Bm.new MD2.out)
  clear bx2
  clear bl2
  generalize w2.alloc (.cells #[.int .i64 MA.w, .int .i64 MA.n, .slice A2 MA.all.length c2] 24) = x2 at *
  generalize w2.heap.size = g2 at *
  have a10 := G1.out.blk.cell 0
  have a11 := G1.out.blk.cell 1
  have a12 := G1.out.blk.cell 2
  simp only [List.getElem?_toArray, List.getElem?_cons_succ, List.getElem?_cons_zero] at a10 a11 a12
  have a20 := G2.out.blk.cell 0
  have a21 := G2.out.blk.cell 1
  have a22 := G2.out.blk.cell 2
  simp only [List.getElem?_toArray, List.getElem?_cons_succ, List.getElem?_cons_zero] at a20 a21 a22
  have PI := Lib.hid (pin_any (b := -1) G1.out.md (by decide) few0)
  rw [wk_p] at PI
  simp only at PI
  go_upto_region 4 with (go_at_call 27; refine (PI.out).mono ?_; rintro e w3 ⟨v3, rfl, hmd, hb⟩; obtain ⟨u3, hv3, hvl3⟩ := hmd; obtain ⟨A3, c3, hs3⟩ := hvl3.shape; subst hs3; subst hv3; have MD3 := Lib.hid (show Md _ w3 (.agg #[.int .i64 MP.w, .int .i64 MP.n, .slice A3 MP.all.length c3]) MP from ⟨_, rfl, hvl3⟩); have HB3 := Lib.hid hb; clear hb hvl3 a10 a11 a12 a20 a21 a22)
  have bl3 : Below w3.heap.size w3 (w3.alloc (.cells #[.int .i64 MP.w, .int .i64 MP.n, .slice A3 MP.all.length c3] 24)) := (Below.refl _ _).alloc (Nat.le_refl _) _
  have BW := Lib.hid ((BW.out.call HB3.out).call bl3)
  have G1 := Lib.hid (((G1.out).below HB3.out).below bl3)
  have G2 := Lib.hid (((G2.out).below HB3.out).below bl3)
  have G3 := Lib.hid (Bm.new MD3.out)
  clear bl3
  generalize w3.alloc (.cells #[.int .i64 MP.w, .int .i64 MP.n, .slice A3 MP.all.length c3] 24) = x3 at *
  generalize w3.heap.size = g3 at *
  have a10 := G1.out.blk.cell 0
  have a11 := G1.out.blk.cell 1
  have a12 := G1.out.blk.cell 2
  simp only [List.getElem?_toArray, List.getElem?_cons_succ, List.getElem?_cons_zero] at a10 a11 a12
  have a20 := G2.out.blk.cell 0
  have a21 := G2.out.blk.cell 1
  have a22 := G2.out.blk.cell 2
  simp only [List.getElem?_toArray, List.getElem?_cons_succ, List.getElem?_cons_zero] at a20 a21 a22
  have a30 := G3.out.blk.cell 0
  have a31 := G3.out.blk.cell 1
  have a32 := G3.out.blk.cell 2
  simp only [List.getElem?_toArray, List.getElem?_cons_succ, List.getElem?_cons_zero] at a30 a31 a32
  have bx4 : Below x3.heap.size x3 (x3.alloc (.cells #[.string kA, .string vA, .bool false] 67)) := (Below.refl _ _).alloc (Nat.le_refl _) _
  have CM2 := Lib.hid (commit_any (G3.out.md.below bx4) (one_chg x3) (by decide) fewP (by decide))
  rw [wk_b] at CM2
  simp only at CM2
  go_upto_region 5 with (go_at_call 30; refine (CM2.out).mono ?_; rintro e w4 ⟨v4, rfl, hmd, hb⟩; obtain ⟨u4, hv4, hvl4⟩ := hmd; obtain ⟨A4, c4, hs4⟩ := hvl4.shape; subst hs4; subst hv4; have MD4 := Lib.hid (show Md _ w4 (.agg #[.int .i64 MB.w, .int .i64 MB.n, .slice A4 MB.all.length c4]) MB from ⟨_, rfl, hvl4⟩); have HB4 := Lib.hid hb; clear hb hvl4 a10 a11 a12 a20 a21 a22 a30 a31 a32)
  have bl4 : Below w4.heap.size w4 (w4.alloc (.cells #[.int .i64 MB.w, .int .i64 MB.n, .slice A4 MB.all.length c4] 24)) := (Below.refl _ _).alloc (Nat.le_refl _) _
  have BW := Lib.hid (((BW.out.alloc (.cells #[.string kA, .string vA, .bool false] 67)).call HB4.out).call bl4)
  have G1 := Lib.hid (((G1.out.below bx4).below HB4.out).below bl4)
  have G2 := Lib.hid (((G2.out.below bx4).below HB4.out).below bl4)
  have G3 := Lib.hid (((G3.out.below bx4).below HB4.out).below bl4)
  have G4 := Lib.hid (Bm.new MD4.out)
  clear bx4
  clear bl4
  generalize w4.alloc (.cells #[.int .i64 MB.w, .int .i64 MB.n, .slice A4 MB.all.length c4] 24) = x4 at *
  generalize w4.heap.size = g4 at *
  have a10 := G1.out.blk.cell 0
  have a11 := G1.out.blk.cell 1
  have a12 := G1.out.blk.cell 2
  simp only [List.getElem?_toArray, List.getElem?_cons_succ, List.getElem?_cons_zero] at a10 a11 a12
  have a20 := G2.out.blk.cell 0
  have a21 := G2.out.blk.cell 1
  have a22 := G2.out.blk.cell 2
  simp only [List.getElem?_toArray, List.getElem?_cons_succ, List.getElem?_cons_zero] at a20 a21 a22
  have a30 := G3.out.blk.cell 0
  have a31 := G3.out.blk.cell 1
  have a32 := G3.out.blk.cell 2
  simp only [List.getElem?_toArray, List.getElem?_cons_succ, List.getElem?_cons_zero] at a30 a31 a32
  have a40 := G4.out.blk.cell 0
  have a41 := G4.out.blk.cell 1
  have a42 := G4.out.blk.cell 2
  simp only [List.getElem?_toArray, List.getElem?_cons_succ, List.getElem?_cons_zero] at a40 a41 a42
  have AT1 := Lib.hid (at_any (blk := 0) G4.out.md (by decide) fewBe)
  rw [wk_at] at AT1
  simp only at AT1
  go_upto_region 6 with (go_at_call 18; refine (AT1.out).mono ?_; rintro e x5 ⟨v5, rfl, hes, hb⟩; obtain ⟨A5, c5, hs5⟩ := hes.toEs.shape; subst hs5; have HB5 := Lib.hid hb; clear hb hes a10 a11 a12 a20 a21 a22 a30 a31 a32 a40 a41 a42)
  have BW := Lib.hid (BW.out.call HB5.out)
  have G1 := Lib.hid (G1.out.below HB5.out)
  have G2 := Lib.hid (G2.out.below HB5.out)
  have G3 := Lib.hid (G3.out.below HB5.out)
  have G4 := Lib.hid (G4.out.below HB5.out)
  have a10 := G1.out.blk.cell 0
  have a11 := G1.out.blk.cell 1
  have a12 := G1.out.blk.cell 2
  simp only [List.getElem?_toArray, List.getElem?_cons_succ, List.getElem?_cons_zero] at a10 a11 a12
  have a20 := G2.out.blk.cell 0
  have a21 := G2.out.blk.cell 1
  have a22 := G2.out.blk.cell 2
  simp only [List.getElem?_toArray, List.getElem?_cons_succ, List.getElem?_cons_zero] at a20 a21 a22
  have a30 := G3.out.blk.cell 0
  have a31 := G3.out.blk.cell 1
  have a32 := G3.out.blk.cell 2
  simp only [List.getElem?_toArray, List.getElem?_cons_succ, List.getElem?_cons_zero] at a30 a31 a32
  have a40 := G4.out.blk.cell 0
  have a41 := G4.out.blk.cell 1
  have a42 := G4.out.blk.cell 2
  simp only [List.getElem?_toArray, List.getElem?_cons_succ, List.getElem?_cons_zero] at a40 a41 a42
  have BT := Lib.hid (between_any (a := 0) (b := 1) G4.out.md (by decide) fewBe)
  rw [wk_bt] at BT
  simp only at BT
  go_upto_region 7 with (go_at_call 20; refine (BT.out).mono ?_; rintro e x6 ⟨v6, rfl, hes, hb⟩; obtain ⟨A6, c6, hs6⟩ := hes.toCs.shape; subst hs6; have HB6 := Lib.hid hb; clear hb hes a10 a11 a12 a20 a21 a22 a30 a31 a32 a40 a41 a42)
  have BW := Lib.hid (BW.out.call HB6.out)
  have G1 := Lib.hid (G1.out.below HB6.out)
  have G2 := Lib.hid (G2.out.below HB6.out)
  have G3 := Lib.hid (G3.out.below HB6.out)
  have G4 := Lib.hid (G4.out.below HB6.out)
  have a10 := G1.out.blk.cell 0
  have a11 := G1.out.blk.cell 1
  have a12 := G1.out.blk.cell 2
  simp only [List.getElem?_toArray, List.getElem?_cons_succ, List.getElem?_cons_zero] at a10 a11 a12
  have a20 := G2.out.blk.cell 0
  have a21 := G2.out.blk.cell 1
  have a22 := G2.out.blk.cell 2
  simp only [List.getElem?_toArray, List.getElem?_cons_succ, List.getElem?_cons_zero] at a20 a21 a22
  have a30 := G3.out.blk.cell 0
  have a31 := G3.out.blk.cell 1
  have a32 := G3.out.blk.cell 2
  simp only [List.getElem?_toArray, List.getElem?_cons_succ, List.getElem?_cons_zero] at a30 a31 a32
  have a40 := G4.out.blk.cell 0
  have a41 := G4.out.blk.cell 1
  have a42 := G4.out.blk.cell 2
  simp only [List.getElem?_toArray, List.getElem?_cons_succ, List.getElem?_cons_zero] at a40 a41 a42
  have UN := Lib.hid (unpin_any (b := 0) G4.out.md (by decide) fewB)
  rw [wk_u] at UN
  simp only at UN
  go_upto_region 8 with (go_at_call 28; refine (UN.out).mono ?_; rintro e w7 ⟨v7, rfl, hmd, hb⟩; obtain ⟨u7, hv7, hvl7⟩ := hmd; obtain ⟨A7, c7, hs7⟩ := hvl7.shape; subst hs7; subst hv7; have MD7 := Lib.hid (show Md _ w7 (.agg #[.int .i64 MA.w, .int .i64 MA.n, .slice A7 MA.all.length c7]) MA from ⟨_, rfl, hvl7⟩); have HB7 := Lib.hid hb; clear hb hvl7 a10 a11 a12 a20 a21 a22 a30 a31 a32 a40 a41 a42)
  have bl7 : Below w7.heap.size w7 (w7.alloc (.cells #[.int .i64 MA.w, .int .i64 MA.n, .slice A7 MA.all.length c7] 24)) := (Below.refl _ _).alloc (Nat.le_refl _) _
  have BW := Lib.hid ((BW.out.call HB7.out).call bl7)
  have G1 := Lib.hid (((G1.out).below HB7.out).below bl7)
  have G2 := Lib.hid (((G2.out).below HB7.out).below bl7)
  have G3 := Lib.hid (((G3.out).below HB7.out).below bl7)
  have G4 := Lib.hid (((G4.out).below HB7.out).below bl7)
  have G7 := Lib.hid (Bm.new MD7.out)
  clear bl7
  generalize w7.alloc (.cells #[.int .i64 MA.w, .int .i64 MA.n, .slice A7 MA.all.length c7] 24) = x7 at *
  generalize w7.heap.size = g7 at *
  have a10 := G1.out.blk.cell 0
  have a11 := G1.out.blk.cell 1
  have a12 := G1.out.blk.cell 2
  simp only [List.getElem?_toArray, List.getElem?_cons_succ, List.getElem?_cons_zero] at a10 a11 a12
  have a20 := G2.out.blk.cell 0
  have a21 := G2.out.blk.cell 1
  have a22 := G2.out.blk.cell 2
  simp only [List.getElem?_toArray, List.getElem?_cons_succ, List.getElem?_cons_zero] at a20 a21 a22
  have a30 := G3.out.blk.cell 0
  have a31 := G3.out.blk.cell 1
  have a32 := G3.out.blk.cell 2
  simp only [List.getElem?_toArray, List.getElem?_cons_succ, List.getElem?_cons_zero] at a30 a31 a32
  have a40 := G4.out.blk.cell 0
  have a41 := G4.out.blk.cell 1
  have a42 := G4.out.blk.cell 2
  simp only [List.getElem?_toArray, List.getElem?_cons_succ, List.getElem?_cons_zero] at a40 a41 a42
  have a70 := G7.out.blk.cell 0
  have a71 := G7.out.blk.cell 1
  have a72 := G7.out.blk.cell 2
  simp only [List.getElem?_toArray, List.getElem?_cons_succ, List.getElem?_cons_zero] at a70 a71 a72
  have AT2 := Lib.hid (fun W (hW : Below x7.heap.size x7 W) => at_any (blk := 0) (G2.out.md.below hW) (by decide) fewAe)
  rw [wk_n] at AT2
  simp only at AT2
  have SM := Lib.hid (fun W (hW : Below x7.heap.size x7 W) => same_any (G7.out.md.below hW) (G2.out.md.below hW) (by decide) fewA)
  rw [decide_eq_true (rfl : MA = MA)] at SM
  have VA := Lib.hid (fun W (hW : Below x7.heap.size x7 W) => valid_any (G1.out.md.below hW) (by decide) few0e)
  rw [wk_v0] at VA
  have VN := Lib.hid (fun W => valid_any (N := fun _ => True) (w := W) (M := ⟨0, 0, []⟩) (v := .agg #[.int .i64 0, .int .i64 0, .slice none 0 0]) ⟨_, rfl, ⟨none, 0, [], rfl, Nat.le_refl _, .inl rfl, Rv.nil⟩⟩ (by decide) (by decide))
  rw [wk_no] at VN
  have W7 := Lib.hid (Below.refl x7.heap.size x7)
  have l1 : ((MA.all.length : Int) == 1) = true := by decide
  have l2 : ((MB.all.length : Int) == 2) = true := by decide
  go_upto_region 9 with (first
    | (go_at_call 18; with_reducible refine (AT2.out _ W7.out).mono ?_; rintro e x8 ⟨v8, rfl, hes, hb⟩; have W8 := Lib.hid hb; have y1 := (G1.out.below hb).blk; have y2 := (G2.out.below hb).blk; have y4 := (G4.out.below hb).blk; have y7 := (G7.out.below hb).blk; have z10 := y1.cell 0; have z11 := y1.cell 1; have z12 := y1.cell 2; have z20 := y2.cell 0; have z21 := y2.cell 1; have z22 := y2.cell 2; have z42 := y4.cell 2; have z70 := y7.cell 0; have z71 := y7.cell 1; have z72 := y7.cell 2; simp only [List.getElem?_toArray, List.getElem?_cons_succ, List.getElem?_cons_zero] at z10 z11 z12 z20 z21 z22 z42 z70 z71 z72; clear hb hes y1 y2 y4 y7))
  clear AT2 NW
  go_wp2_with (first
    | (go_at_call 22; with_reducible refine (SM.out _ W8.out).mono ?_; rintro e x9 ⟨rfl, hb⟩; have W9 := Lib.hid (W8.out.trans (Below.mono hb W8.out.size)); have u10 := (hb.cell (p := ⟨g1, 0, none⟩) (G1.out.below W8.out).blk.lt).trans z10; have u11 := (hb.cell (p := ⟨g1, 1, none⟩) (G1.out.below W8.out).blk.lt).trans z11; have u12 := (hb.cell (p := ⟨g1, 2, none⟩) (G1.out.below W8.out).blk.lt).trans z12; clear hb)
    | (go_at_call 17; with_reducible refine (VA.out _ W9.out).mono ?_; rintro e x10 ⟨rfl, hb⟩; have W10 := Lib.hid (W9.out.trans (Below.mono hb W9.out.size)); clear hb)
    | (go_at_call 17; with_reducible refine (VN.out _).mono ?_; rintro e x11 ⟨rfl, hb⟩; have W11 := Lib.hid (W10.out.trans (Below.mono hb W10.out.size)); clear hb))
  go_ret
  exact ⟨rfl, (BW.out.call W11.out).1⟩
end Go.Proofs.Ytdahhnefcageeaa
