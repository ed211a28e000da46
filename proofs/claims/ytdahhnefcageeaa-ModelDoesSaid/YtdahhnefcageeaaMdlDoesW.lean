/-
  ModelDoes: the walk (written by makers/mdldoes.py).
-/
import Derived.Test.YtdahhnefcageeaaMdlWorks
import Derived.Test.YtdahhnefcageeaaMdlArgsM
import Derived.Test.YtdahhnefcageeaaMdlFewM
import Derived.Test.YtdahhnefcageeaaMdlRefT
import Derived.Test.YtdahhnefcageeaaGaMdR4
import Derived.Test.YtdahhnefcageeaaMdlRefEq
import Derived.Deep.RegionHeld3
import Derived.Deep.CutRange
namespace Go.Proofs.Ytdahhnefcageeaa
open Go.RowKit Go.Proofs.Mdl
set_option linter.unusedVariables false
set_option linter.unusedSimpArgs false
theorem diffM_len' {a b : List Ent} (ha : Mdl.Good a) (hb : Mdl.Good b) : (diffM a b).length ≤ 1000 := by
  rw [diffM_good ha hb]
  have := diff_len _ a b (Nat.le_refl _)
  have := ha.few
  have := hb.few
  omega
theorem big_set {M : Mod} {k : Nat} {V : Ver} {p : Int} (h : ∀ V ∈ M.all, V.e.length ≤ 1000 ∧ V.c.length ≤ 1000) (hk : M.all[k]? = some V) : ∀ X ∈ M.all.set k { V with p := p }, X.e.length ≤ 1000 ∧ X.c.length ≤ 1000 := by
  intro X hX
  rcases List.mem_or_eq_of_mem_set hX with hX | rfl
  · exact h X hX
  · exact h V (List.mem_of_getElem? hk)
theorem big_kept {M : Mod} (h : ∀ V ∈ M.all, V.e.length ≤ 1000 ∧ V.c.length ≤ 1000) : ∀ X ∈ (keptM M).all, X.e.length ≤ 1000 ∧ X.c.length ≤ 1000 := fun X hX => h X ((keptL_sub M M.all).subset hX)
theorem big_act {M : Mod} (a : Mdl.Act) (h : ∀ V ∈ M.all, V.e.length ≤ 1000 ∧ V.c.length ≤ 1000) : ∀ X ∈ (doM M a).1.all, X.e.length ≤ 1000 ∧ X.c.length ≤ 1000 := by
  unfold doM
  split
  · unfold commitM
    split
    · split
      · rename_i _ h2
        split
        · exact h
        · obtain ⟨g1, g2, g3, g4⟩ := applyM_good h2
          refine big_kept ?_
          intro X hX
          rcases List.mem_append.1 hX with hX | hX
          · exact h X hX
          · rw [List.mem_singleton] at hX
            subst hX
            exact ⟨by have := g4.few; simp only [g3]; omega, diffM_len' g1 (by rw [g3]; exact g4)⟩
      · exact h
    · exact h
  · split
    · unfold pinM
      split
      · split
        · exact h
        · split
          · exact h
          · rename_i hk
            split
            · exact h
            · exact big_set h hk
      · exact h
    · unfold unpinM
      split
      · split
        · exact h
        · split
          · exact h
          · rename_i hk
            split
            · exact h
            · exact big_kept (big_set h hk)
      · exact h
theorem diffM_le (x y : List Ent) : (diffM x y).length ≤ 1000 := by
  by_cases h : checkN x = 0 ∧ checkN y = 0
  · exact diffM_len' (good_iff.1 h.1) (good_iff.1 h.2)
  · unfold diffM
    rw [if_neg h]
    exact Nat.zero_le _
theorem betweenM_le (M : Mod) (x y : Int) : (betweenM M x y).1.length ≤ 1000 := by
  unfold betweenM
  split
  · split
    · exact diffM_le _ _
    · exact Nat.zero_le _
  · exact Nat.zero_le _
theorem sameE_self {w : World} {va vb : Value} {la : List Ent} (h1 : Es w va la) (h2 : Es w vb la) (hl : la.length ≤ 1000) :
    Calls Try.prog 23 #[va, vb] w fun e w' => e = .returned (.bool true) ∧ Below w.heap.size w w' := by
  have h := sameE_any h1 h2 hl
  rw [show decide (la = la) = true from decide_eq_true rfl] at h
  exact h
theorem sameC_self {w : World} {va vb : Value} {la : List Chg} (h1 : Cs w va la) (h2 : Cs w vb la) (hl : la.length ≤ 1000) :
    Calls Try.prog 24 #[va, vb] w fun e w' => e = .returned (.bool true) ∧ Below w.heap.size w w' := by
  have h := sameC_any h1 h2 hl
  rw [show decide (la = la) = true from decide_eq_true rfl] at h
  exact h
theorem rsame_self {N N' : Nat → Prop} {w : World} {va vb : Value} {M : Mod} (h1 : Md N w va M) (h2 : Md N' w vb M) (hl : M.all.length ≤ 1000) (hle : ∀ V ∈ M.all, V.e.length ≤ 1000 ∧ V.c.length ≤ 1000) :
    Calls Try.prog 15 #[va, vb] w fun e w' => e = .returned (.bool true) ∧ Below w.heap.size w w' := by
  have h := rsame_any h1 h2 hl hle
  rw [show decide (M = M) = true from decide_eq_true rfl] at h
  exact h
theorem lk_two {W : World} {T : TypeId} {a b : Mdl.Act} {va vb : Value} (ha : Cs W va a.c) (hb : Cs W vb b.c) : Lk (W.alloc (.cells #[.int .i64 a.k, va, .int .i64 a.n, .int .i64 b.k, vb, .int .i64 b.n] T)) (some ⟨W.heap.size, 0, none⟩) [a, b] := by
  have bl : Below W.heap.size W (W.alloc (.cells #[.int .i64 a.k, va, .int .i64 a.n, .int .i64 b.k, vb, .int .i64 b.n] T)) := (Below.refl _ _).alloc (Nat.le_refl _) _
  have B := Blk.new W T #[.int .i64 a.k, va, .int .i64 a.n, .int .i64 b.k, vb, .int .i64 b.n]
  refine .inr ⟨W.heap.size, 0, rfl, B.lt, fun j x hx => ?_⟩
  match j, hx with
  | 0, hx =>
    cases hx
    exact ⟨va, B.cell 0, B.cell 1, B.cell 2, ha.below bl⟩
  | 1, hx =>
    cases hx
    exact ⟨vb, B.cell 3, B.cell 4, B.cell 5, hb.below bl⟩
  | j + 2, hx => simp at hx
set_option maxRecDepth 100000 in
set_option maxHeartbeats 1000000 in
theorem mdoes_walk (w : World) (v0 : Value) (M : Mod) (S0 : Md (fun _ => True) w v0 M) (v1 : Value) (a : Mdl.Act) (S1 : AcV w v1 a) (v2 : Value) (b : Mdl.Act) (S2 : AcV w v2 b) (n : Int) :
    Calls Try.prog 3 #[v0, v1, v2, .int .i64 n] w fun e w' => e = .returned (.bool true) ∧ Below w.heap.size w w' := by
  obtain ⟨u, rfl, hv⟩ := S0
  obtain ⟨Am, cm, rfl⟩ := hv.shape
  obtain ⟨va, rfl, hca⟩ := S1
  obtain ⟨Aa, ca, rfl⟩ := hca.shape
  obtain ⟨vb, rfl, hcb⟩ := S2
  obtain ⟨Ab, cb, rfl⟩ := hcb.shape
  obtain ⟨w3, g, p, s, hw, hg, hp, hs, hb3, b1, b2, b3⟩ := three_boxes w 24 27 27 #[.int .i64 M.w, .int .i64 M.n, .slice Am M.all.length cm] #[.int .i64 a.k, .slice Aa a.c.length ca, .int .i64 a.n] #[.int .i64 b.k, .slice Ab b.c.length cb, .int .i64 b.n]
  have MD := Lib.hid (fun W (hW : Below w3.heap.size w3 W) => show Md (fun _ => True) W (.agg #[.int .i64 M.w, .int .i64 M.n, .slice Am M.all.length cm]) M from ⟨_, rfl, (hv.below hb3).below hW⟩)
  have CA := Lib.hid (fun W (hW : Below w3.heap.size w3 W) => (hca.below hb3).below hW)
  have CB := Lib.hid (fun W (hW : Below w3.heap.size w3 W) => (hcb.below hb3).below hW)
  have CELL : Hid (∀ W, Below w3.heap.size w3 W → (W.cell? ⟨g, 0, none⟩ = some (.int .i64 M.w) ∧ W.cell? ⟨g, 1, none⟩ = some (.int .i64 M.n) ∧ W.cell? ⟨g, 2, none⟩ = some (.slice Am M.all.length cm)) ∧ (W.cell? ⟨p, 0, none⟩ = some (.int .i64 a.k) ∧ W.cell? ⟨p, 1, none⟩ = some (.slice Aa a.c.length ca) ∧ W.cell? ⟨p, 2, none⟩ = some (.int .i64 a.n)) ∧ W.cell? ⟨s, 0, none⟩ = some (.int .i64 b.k) ∧ W.cell? ⟨s, 1, none⟩ = some (.slice Ab b.c.length cb) ∧ W.cell? ⟨s, 2, none⟩ = some (.int .i64 b.n)) := Lib.hid (fun W hW => by
    have k1 := b1.below hW
    have k2 := b2.below hW
    have k3 := b3.below hW
    exact ⟨⟨by simpa using k1.cell 0, by simpa using k1.cell 1, by simpa using k1.cell 2⟩, ⟨by simpa using k2.cell 0, by simpa using k2.cell 1, by simpa using k2.cell 2⟩, by simpa using k3.cell 0, by simpa using k3.cell 1, by simpa using k3.cell 2⟩)
  have BW := Lib.hid (Bl.call (Bl.start w) hb3)
  have WK := Lib.hid (fun W => works_any W)
  have FM := Lib.hid (fun W (hW : Below w3.heap.size w3 W) => fewM_any (MD.out W hW))
  have FA := Lib.hid (fun W (hW : Below w3.heap.size w3 W) => few_any (c := 2) (lk_two (T := 27) (CA.out W hW) (CB.out W hW)))
  clear hv hca hcb b1 b2 b3 hb3
  go_enter Try.func3, Try.ntmps3
  go_upto_region 1 with (fail)
  rw [← hw, ← hs, ← hp, ← hg]
  clear hw hp hg hs
  obtain ⟨⟨x0, x1, x2⟩, ⟨y0, y1, y2⟩, z0, z1, z2⟩ := CELL.out _ (Below.refl _ _)
  go_upto_region 4 with (go_at_call 9; refine (WK.out _).mono ?_; rintro e w4 ⟨rfl, hb⟩; have E4 := Lib.hid hb; clear hb x0 x1 x2 y0 y1 y2 z0 z1 z2)
  obtain ⟨⟨x0, x1, x2⟩, ⟨y0, y1, y2⟩, z0, z1, z2⟩ := CELL.out _ E4.out
  go_wp2_with fail
  refine (FM.out _ E4.out).mono ?_
  rintro e w5 ⟨⟨bf, rfl, hbf, hb⟩⟩
  have HBF := Lib.hid hbf
  have E5 := Lib.hid (bel_trans' E4.out hb)
  clear hbf hb x0 x1 x2 y0 y1 y2 z0 z1 z2
  obtain ⟨⟨x0, x1, x2⟩, ⟨y0, y1, y2⟩, z0, z1, z2⟩ := CELL.out _ E5.out
  cases bf with
  | false =>
    go_wp2_with fail
    go_ret
    exact ⟨rfl, (BW.out.call E5.out).1⟩
  | true =>
    obtain ⟨fm, fv⟩ := HBF.out rfl
    go_wp2_with fail
    refine (FA.out _ E5.out).mono ?_
    rintro e w6 ⟨⟨bg, rfl, hbg, rfl⟩⟩
    have HBG := Lib.hid hbg
    have E6 : Hid (Below w3.heap.size w3 (w5.alloc (.cells #[.int .i64 a.k, .slice Aa a.c.length ca, .int .i64 a.n, .int .i64 b.k, .slice Ab b.c.length cb, .int .i64 b.n] 27))) := Lib.hid (bel_trans' E5.out ((Below.refl _ _).alloc (Nat.le_refl _) _))
    clear hbg x0 x1 x2 y0 y1 y2 z0 z1 z2
    generalize w5.alloc (.cells #[.int .i64 a.k, .slice Aa a.c.length ca, .int .i64 a.n, .int .i64 b.k, .slice Ab b.c.length cb, .int .i64 b.n] 27) = w6 at *
    obtain ⟨⟨x0, x1, x2⟩, ⟨y0, y1, y2⟩, z0, z1, z2⟩ := CELL.out _ E6.out
    cases bg with
    | false =>
      go_wp2_with fail
      go_ret
      exact ⟨rfl, (BW.out.call E6.out).1⟩
    | true =>
      obtain ⟨_, fab⟩ := HBG.out rfl
      have la : a.c.length ≤ 45 := fab a (by simp)
      have lb : b.c.length ≤ 45 := fab b (by simp)
      have LEV : Hid (∀ V ∈ M.all, V.e.length ≤ 1000 ∧ V.c.length ≤ 1000) := Lib.hid (fun V hV => by have := fv V hV; omega)
      have LM : Hid (M.all.length ≤ 12) := Lib.hid fm
      have LA : Hid (a.c.length ≤ 45 ∧ b.c.length ≤ 45) := Lib.hid ⟨la, lb⟩
      clear fab fm fv la lb HBF HBG FM FA WK
      have DA := Lib.hid (fun W (hW : Below w3.heap.size w3 W) => do_any (a := a) (MD.out W hW) (CA.out W hW) (by have := LM.out; omega) LEV.out (by have := LA.out.1; omega))
      have DB := Lib.hid (fun W (hW : Below w3.heap.size w3 W) => do_any (a := b) (MD.out W hW) (CB.out W hW) (by have := LM.out; omega) LEV.out (by have := LA.out.2; omega))
      have OM := Lib.hid (fun W (hW : Below w3.heap.size w3 W) (N : Nat → Prop) (h : Md N W (.agg #[.int .i64 M.w, .int .i64 M.n, .slice Am M.all.length cm]) M) => of_any h (by have := LM.out; omega))
      have TD := Lib.hid (fun W (hW : Below w3.heap.size w3 W) (N : Nat → Prop) v (h : Md N W v M) => told_any (a := a) h (CA.out W hW) (by have := LM.out; omega) LEV.out (by have := LA.out.1; omega))
      have LR : Hid ((doM M a).1.all.length ≤ 13 ∧ ∀ V ∈ (doM M a).1.all, V.e.length ≤ 1000 ∧ V.c.length ≤ 1000) := Lib.hid ⟨by have := act_len M a; have := LM.out; omega, big_act a LEV.out⟩
      have LS : Hid ((doM M b).1.all.length ≤ 13 ∧ ∀ V ∈ (doM M b).1.all, V.e.length ≤ 1000 ∧ V.c.length ≤ 1000) := Lib.hid ⟨by have := act_len M b; have := LM.out; omega, big_act b LEV.out⟩
      generalize doM M a = K1 at *
      generalize doM M b = K2 at *
      obtain ⟨R, r1, r2⟩ := K1
      obtain ⟨S, s1, s2⟩ := K2
      simp only at DA DB TD LR LS
      have VM := Lib.hid (fun W (hW : Below w3.heap.size w3 W) => valid_any (MD.out W hW) (by have := LM.out; omega) (fun V hV => (LEV.out V hV).1))
      go_upto_region 8 with (go_at_call 12; refine (DA.out _ E6.out).mono ?_; rintro e w7 ⟨v7, rfl, hmd, hb⟩; obtain ⟨u7, hv7, hvl⟩ := hmd; obtain ⟨A1, c1, hs7⟩ := hvl.shape; subst hs7; subst hv7; have V1 := Lib.hid hvl; have E7 := Lib.hid (bel_trans' E6.out hb); clear hvl hb)
      have AL : Below w7.heap.size w7 (w7.alloc (.cells #[.int .i64 R.w, .int .i64 R.n, .slice A1 R.all.length c1] 24)) := (Below.refl _ _).alloc (Nat.le_refl _) _
      have BX := Lib.hid (Blk.new w7 24 #[.int .i64 R.w, .int .i64 R.n, .slice A1 R.all.length c1])
      have EA := Lib.hid (bel_trans' E7.out AL)
      have VA := Lib.hid ((V1.out.mono (N' := fun _ => True) (fun _ _ _ => trivial)).below AL)
      clear AL V1 x0 x1 x2 y0 y1 y2 z0 z1 z2
      generalize w7.alloc (.cells #[.int .i64 R.w, .int .i64 R.n, .slice A1 R.all.length c1] 24) = wa at *
      generalize w7.heap.size = x at *
      have OMN := Lib.hid (fun W (hW : Below wa.heap.size wa W) => OM.out W (bel_trans' EA.out hW) (fun b => b < wa.heap.size) (((MD.out wa EA.out).mono (fun b _ h => h)).below hW))
      have ST : Hid (∀ W, Below wa.heap.size wa W → W.cell? ⟨g, 0, none⟩ = some (.int .i64 M.w) ∧ W.cell? ⟨g, 1, none⟩ = some (.int .i64 M.n) ∧ W.cell? ⟨g, 2, none⟩ = some (.slice Am M.all.length cm) ∧ W.cell? ⟨p, 0, none⟩ = some (.int .i64 a.k) ∧ W.cell? ⟨p, 1, none⟩ = some (.slice Aa a.c.length ca) ∧ W.cell? ⟨p, 2, none⟩ = some (.int .i64 a.n)) := Lib.hid (fun W hW => by
        obtain ⟨⟨x0, x1, x2⟩, ⟨y0, y1, y2⟩, _⟩ := CELL.out _ (bel_trans' EA.out hW)
        exact ⟨x0, x1, x2, y0, y1, y2⟩)
      have TDN := Lib.hid (fun W (hW : Below wa.heap.size wa W) (N : Nat → Prop) v (h : Md N W v M) => TD.out W (bel_trans' EA.out hW) N v h)
      go_cut [14, 15, 16] from 52 to 59 (fun v14 v15 v16 wx => ∃ y A2 c2, v14 = .pointer (some ⟨y, 0, none⟩) ∧ v15 = .int .i64 r1 ∧ v16 = .int .i64 r2 ∧ Hid (Blk wx y 37 #[.int .i64 R.w, .int .i64 R.n, .slice A2 R.all.length c2]) ∧ Hid (Vl (fun _ => True) wx (.slice A2 R.all.length c2) R.all) ∧ Hid (Below wa.heap.size wa wx))
      case first =>
        have E0 : Hid (Below wa.heap.size wa wa.drew) := Lib.hid ((Bl.start wa).drewN 1).1
        have E1 : Hid (Below wa.heap.size wa (wa.alloc (.cells #[.int .i64 0, .int .i64 0, .slice none 0 0] 37)).drew) := Lib.hid (((Bl.start wa).alloc _).drewN 1).1
        have ZB : Hid (Blk (wa.alloc (.cells #[.int .i64 0, .int .i64 0, .slice none 0 0] 37)).drew wa.heap.size 37 #[.int .i64 0, .int .i64 0, .slice none 0 0]) := Lib.hid (Blk.new wa _ _)
        have SZ : Hid (∀ b, (wa.alloc (.cells #[.int .i64 0, .int .i64 0, .slice none 0 0] 37)).drew.heap.size ≤ b → b = wa.heap.size → False) := Lib.hid (fun b h e => by have h5 : (wa.alloc (.cells #[.int .i64 0, .int .i64 0, .slice none 0 0] 37)).drew.heap.size = wa.heap.size + 1 := (show (World.alloc _ _).heap.size = _ by simp); omega)
        go_region_held3 (fun W => W.cell? ⟨g, 0, none⟩ = some (.int .i64 M.w) ∧ W.cell? ⟨g, 1, none⟩ = some (.int .i64 M.n) ∧ W.cell? ⟨g, 2, none⟩ = some (.slice Am M.all.length cm) ∧ W.cell? ⟨p, 0, none⟩ = some (.int .i64 a.k) ∧ W.cell? ⟨p, 1, none⟩ = some (.slice Aa a.c.length ca) ∧ W.cell? ⟨p, 2, none⟩ = some (.int .i64 a.n))
          (first | (with_reducible exact ST.out _ E0.out) | (with_reducible exact ST.out _ E1.out) | (with_reducible exact ST.out _ E8.out) | (with_reducible exact ST.out _ E8b.out) | (with_reducible exact ST.out _ L9.out.1) | (refine ST.out _ (show Bl wa.heap.size wa _ from ?_).1; repeat' (first | (with_reducible exact L9.out) | (with_reducible refine Bl.alloc ?_ _) | (with_reducible refine Bl.setCell ?_ ?_ _) | (exact L8.out.2) | (exact Nat.le_refl _))))
          (first
            | (go_at_call 14; (with_reducible refine (OMN.out _ E0.out).mono ?_); rintro e w8 ⟨v8, rfl, hmd, hb⟩; have M8 := Lib.hid (hmd.mono (N' := fun b => b < w8.heap.size) (fun b h1 h2 => h2)); have L8 := Lib.hid ((Bl.start wa).drew.call hb); have E8 := Lib.hid L8.out.1; have L8b := Lib.hid (L8.out.alloc (.cells #[.int .i64 0, .int .i64 0, .slice none 0 0] 37)); have E8b := Lib.hid L8b.out.1; have ZB8b := Lib.hid (Blk.new w8 37 #[.int .i64 0, .int .i64 0, .slice none 0 0]); have M8b := Lib.hid (M8.out.below ((Below.refl _ _).alloc (Nat.le_refl _) (.cells #[.int .i64 0, .int .i64 0, .slice none 0 0] 37))); clear hmd hb)
            | (go_at_call 14; (with_reducible refine (OMN.out _ E1.out).mono ?_); rintro e w8 ⟨v8, rfl, hmd, hb⟩; have M8 := Lib.hid (hmd.mono (N' := fun b => ¬ b = wa.heap.size ∧ b < w8.heap.size) (fun b h1 h2 => ⟨fun e => by rcases h1 with h1 | h1; exact absurd h1 (by omega); exact SZ.out b h1 e, h2⟩)); have L8 := Lib.hid (((Bl.start wa).alloc (.cells #[.int .i64 0, .int .i64 0, .slice none 0 0] 37)).drew.call hb); have E8 := Lib.hid L8.out.1; have ZB8 := Lib.hid (ZB.out.below hb); clear hmd hb)
            | (go_at_call 13; (with_reducible refine (TDN.out _ E8.out _ _ M8.out).mono ?_); rintro e w9 ⟨v9, rfl, hmd, hb⟩; obtain ⟨u9, hv9, hvl⟩ := hmd; obtain ⟨A2, c2, hs9⟩ := hvl.shape; subst hs9; subst hv9; have V9 := Lib.hid hvl; have ZB9 := Lib.hid (ZB8.out.below hb); have L9 := Lib.hid (L8.out.call hb); have k0 := ZB9.out.cell 0; have k1 := ZB9.out.cell 1; have k2 := ZB9.out.cell 2; simp only [List.getElem?_toArray, List.getElem?_cons_succ, List.getElem?_cons_zero] at k0 k1 k2; have f0 := ZB9.out.frozen 0; have f1 := ZB9.out.frozen 1; have f2 := ZB9.out.frozen 2; have ORD : Hid (1 = 1) := Lib.hid rfl; clear hvl hb)
            | (go_at_call 13; (with_reducible refine (TDN.out _ E8.out _ _ M8.out).mono ?_); rintro e w9 ⟨v9, rfl, hmd, hb⟩; obtain ⟨u9, hv9, hvl⟩ := hmd; obtain ⟨A2, c2, hs9⟩ := hvl.shape; subst hs9; subst hv9; have V9 := Lib.hid hvl; have L9 := Lib.hid (L8.out.call hb); clear hvl hb ZB8b)
            | (go_at_call 13; (with_reducible refine (TDN.out _ E8b.out _ _ M8b.out).mono ?_); rintro e w9 ⟨v9, rfl, hmd, hb⟩; obtain ⟨u9, hv9, hvl⟩ := hmd; obtain ⟨A2, c2, hs9⟩ := hvl.shape; subst hs9; subst hv9; have V9 := Lib.hid hvl; have ZB9 := Lib.hid (ZB8b.out.below hb); have L9 := Lib.hid (L8b.out.call hb); have k0 := ZB9.out.cell 0; have k1 := ZB9.out.cell 1; have k2 := ZB9.out.cell 2; simp only [List.getElem?_toArray, List.getElem?_cons_succ, List.getElem?_cons_zero] at k0 k1 k2; have f0 := ZB9.out.frozen 0; have f1 := ZB9.out.frozen 1; have f2 := ZB9.out.frozen 2; clear hvl hb))
        · go_wp2_with fail
          go_meet
          exact ⟨w9.heap.size, A2, c2, rfl, rfl, rfl, Lib.hid (Blk.new w9 _ _), Lib.hid ((V9.out.mono (N' := fun _ => True) (fun _ _ _ => trivial)).below ((Below.refl _ _).alloc (Nat.le_refl _) _)), Lib.hid (L9.out.alloc _).1⟩
        · go_wp2_with fail
          go_meet
          obtain ⟨W4, hW4, bl4, ff4, bk4⟩ := put3 ZB9.out L9.out L8.out.2 (.int .i64 R.w) (.int .i64 R.n) (.slice A2 R.all.length c2)
          rw [← hW4]
          exact ⟨w8.heap.size, A2, c2, rfl, rfl, rfl, Lib.hid bk4, Lib.hid ((V9.out.far ff4 (fun b hb _ e => by
            have e1 : b = w8.heap.size := e
            rcases hb with h | h
            · have h9 : b < w8.heap.size := h
              omega
            · have h9 : (w8.alloc (.cells #[.int .i64 0, .int .i64 0, .slice none 0 0] 37)).heap.size ≤ b := h
              have h10 : (w8.alloc (.cells #[.int .i64 0, .int .i64 0, .slice none 0 0] 37)).heap.size = w8.heap.size + 1 := by simp
              omega)).mono (N' := fun _ => True) (fun _ _ _ => trivial)), Lib.hid bl4.1⟩
        · go_wp2_with fail
          go_meet
          obtain ⟨W4, hW4, bl4, ff4, bk4⟩ := put3 ZB9.out L9.out (Nat.le_refl _) (.int .i64 R.w) (.int .i64 R.n) (.slice A2 R.all.length c2)
          rw [← hW4]
          exact ⟨wa.heap.size, A2, c2, rfl, rfl, rfl, Lib.hid bk4, Lib.hid ((V9.out.far ff4 (fun b hb _ e => by
            have e1 : b = wa.heap.size := e
            have h11 := ZB8.out.lt
            rcases hb with h | h
            · have h9 : ¬ b = wa.heap.size ∧ b < w8.heap.size := h
              exact h9.1 e1
            · have h9 : w8.heap.size ≤ b := h
              omega)).mono (N' := fun _ => True) (fun _ _ _ => trivial)), Lib.hid bl4.1⟩
      case rest =>
        obtain ⟨y, A2, c2, e10, e11, e12, BY, VB, EBx⟩ := hcut
        subst e10
        subst e11
        subst e12
        rename World => wb
        have EB := Lib.hid (bel_trans' EA.out EBx.out)
        have BXb := Lib.hid (BX.out.below EBx.out)
        have VXb := Lib.hid (VA.out.below EBx.out)
        clear BX VA EBx ST TDN OMN TD
        have OFX := Lib.hid (fun W (hW : Below wb.heap.size wb W) => of_any (show Md (fun _ => True) W (.agg #[.int .i64 R.w, .int .i64 R.n, .slice A1 R.all.length c1]) R from ⟨_, rfl, VXb.out.below hW⟩) (by have := LR.out.1; omega))
        have SMY := Lib.hid (fun W (hW : Below wb.heap.size wb W) (N : Nat → Prop) v (hm : Md N W v R) => rsame_self hm (show Md (fun _ => True) W (.agg #[.int .i64 R.w, .int .i64 R.n, .slice A2 R.all.length c2]) R from ⟨_, rfl, VB.out.below hW⟩) (by have := LR.out.1; omega) LR.out.2)
        have ST : Hid (∀ W, Below wb.heap.size wb W → W.cell? ⟨x, 0, none⟩ = some (.int .i64 R.w) ∧ W.cell? ⟨x, 1, none⟩ = some (.int .i64 R.n) ∧ W.cell? ⟨x, 2, none⟩ = some (.slice A1 R.all.length c1) ∧ W.cell? ⟨y, 0, none⟩ = some (.int .i64 R.w) ∧ W.cell? ⟨y, 1, none⟩ = some (.int .i64 R.n) ∧ W.cell? ⟨y, 2, none⟩ = some (.slice A2 R.all.length c2)) := Lib.hid (fun W hW => by
          have k1 := BXb.out.below hW
          have k2 := BY.out.below hW
          exact ⟨k1.cell 0, k1.cell 1, k1.cell 2, k2.cell 0, k2.cell 1, k2.cell 2⟩)
        have E0 : Hid (Below wb.heap.size wb wb.drew) := Lib.hid ((Bl.start wb).drewN 1).1
        go_wp2_with fail
        go_region_held3 (fun W => W.cell? ⟨x, 0, none⟩ = some (.int .i64 R.w) ∧ W.cell? ⟨x, 1, none⟩ = some (.int .i64 R.n) ∧ W.cell? ⟨x, 2, none⟩ = some (.slice A1 R.all.length c1) ∧ W.cell? ⟨y, 0, none⟩ = some (.int .i64 R.w) ∧ W.cell? ⟨y, 1, none⟩ = some (.int .i64 R.n) ∧ W.cell? ⟨y, 2, none⟩ = some (.slice A2 R.all.length c2))
          (first | (with_reducible exact ST.out _ E0.out) | (with_reducible exact ST.out _ E1.out) | (with_reducible exact ST.out _ E2.out))
          (first
            | (go_at_call 14; (with_reducible refine (OFX.out _ E0.out).mono ?_); rintro e w8 ⟨v8, rfl, hmd, hb⟩; have M8 := Lib.hid hmd; have E1 := Lib.hid (bel_trans' E0.out hb); clear hmd hb)
            | (go_at_call 15; (with_reducible refine (SMY.out _ E1.out _ _ M8.out).mono ?_); rintro e w9 ⟨rfl, hb⟩; have E2 := Lib.hid (bel_trans' E1.out hb); clear hb))
        have E9 := Lib.hid (bel_trans' EB.out E2.out)
        have BX9 := Lib.hid (BXb.out.below E2.out)
        have VX9 := Lib.hid (VXb.out.below E2.out)
        replace CELL := Lib.hid (fun W (hW : Below w9.heap.size w9 W) => CELL.out W (bel_trans' E9.out hW))
        replace MD := Lib.hid (fun W (hW : Below w9.heap.size w9 W) => MD.out W (bel_trans' E9.out hW))
        replace DB := Lib.hid (fun W (hW : Below w9.heap.size w9 W) => DB.out W (bel_trans' E9.out hW))
        replace VM := Lib.hid (fun W (hW : Below w9.heap.size w9 W) => VM.out W (bel_trans' E9.out hW))
        replace OM := Lib.hid (fun W (hW : Below w9.heap.size w9 W) => OM.out W (bel_trans' E9.out hW))
        replace BW := Lib.hid (BW.out.call E9.out)
        have XC := Lib.hid (fun W (hW : Below w9.heap.size w9 W) => have k := BX9.out.below hW; show W.cell? ⟨x, 0, none⟩ = some (.int .i64 R.w) ∧ W.cell? ⟨x, 1, none⟩ = some (.int .i64 R.n) ∧ W.cell? ⟨x, 2, none⟩ = some (.slice A1 R.all.length c1) from ⟨k.cell 0, k.cell 1, k.cell 2⟩)
        have MX := Lib.hid (fun W (hW : Below w9.heap.size w9 W) => show Md (fun _ => True) W (.agg #[.int .i64 R.w, .int .i64 R.n, .slice A1 R.all.length c1]) R from ⟨_, rfl, VX9.out.below hW⟩)
        clear BX9 VX9
        clear BXb VXb OFX SMY ST E0 E1 E2 M8 EB BY VB EA DA
        clear E9
        have E9 := Lib.hid (Below.refl w9.heap.size w9)
        obtain ⟨⟨x0, x1, x2⟩, ⟨y0, y1, y2⟩, z0, z1, z2⟩ := CELL.out _ E9.out
        have RV := Lib.hid (fun W (N : Nat → Prop) v (h : Md N W v M) => rvalid_any h (by have := LM.out; omega) (fun V hV => (LEV.out V hV).1))
        have OM1 := Lib.hid (fun W (hW : Below w9.heap.size w9 W) => OM.out W hW _ (MD.out W hW))
        have DEC : Hid True := Lib.hid trivial
        generalize validM M = vm at VM RV
        go_upto_region 13 with (first
          | (go_at_call 14; refine (OM1.out _ E9.out).mono ?_; rintro e w10 ⟨v10, rfl, hmd, hb⟩; have M10 := Lib.hid hmd; have E10 := Lib.hid (bel_trans' E9.out hb); clear hmd hb x0 x1 x2 y0 y1 y2 z0 z1 z2; obtain ⟨⟨x0, x1, x2⟩, ⟨y0, y1, y2⟩, z0, z1, z2⟩ := CELL.out _ E10.out)
          | (go_at_call 16; refine (RV.out _ _ _ M10.out).mono ?_; rintro e w11 ⟨rfl, hb⟩; have E11 := Lib.hid (bel_trans' E10.out hb); clear hb x0 x1 x2 y0 y1 y2 z0 z1 z2; obtain ⟨⟨x0, x1, x2⟩, ⟨y0, y1, y2⟩, z0, z1, z2⟩ := CELL.out _ E11.out)
          | (go_at_call 17; refine (VM.out _ E11.out).mono ?_; rintro e w12 ⟨rfl, hb⟩; have E12 := Lib.hid (bel_trans' E11.out hb); clear hb x0 x1 x2 y0 y1 y2 z0 z1 z2; obtain ⟨⟨x0, x1, x2⟩, ⟨y0, y1, y2⟩, z0, z1, z2⟩ := CELL.out _ E12.out))
        go_upto_region 14 with (go_at_call 12; refine (DB.out _ E12.out).mono ?_; rintro e w7 ⟨v7, rfl, hmd, hb⟩; obtain ⟨u7, hv7, hvl⟩ := hmd; obtain ⟨A3, c3, hs7⟩ := hvl.shape; subst hs7; subst hv7; have V3 := Lib.hid hvl; have E13 := Lib.hid (bel_trans' E12.out hb); clear hvl hb)
        have AL : Below w7.heap.size w7 (w7.alloc (.cells #[.int .i64 S.w, .int .i64 S.n, .slice A3 S.all.length c3] 24)) := (Below.refl _ _).alloc (Nat.le_refl _) _
        have BZ := Lib.hid (Blk.new w7 24 #[.int .i64 S.w, .int .i64 S.n, .slice A3 S.all.length c3])
        have EA := Lib.hid (bel_trans' E13.out AL)
        have VZ := Lib.hid ((V3.out.mono (N' := fun _ => True) (fun _ _ _ => trivial)).below AL)
        clear AL V3 x0 x1 x2 y0 y1 y2 z0 z1 z2
        generalize w7.alloc (.cells #[.int .i64 S.w, .int .i64 S.n, .slice A3 S.all.length c3] 24) = wd at *
        generalize w7.heap.size = z at *
        have CELL4 := Lib.hid (fun W (hW : Below wd.heap.size wd W) => CELL.out W (bel_trans' EA.out hW))
        have MD4 := Lib.hid (fun W (hW : Below wd.heap.size wd W) => MD.out W (bel_trans' EA.out hW))
        have XC4 := Lib.hid (fun W (hW : Below wd.heap.size wd W) => XC.out W (bel_trans' EA.out hW))
        have MX4 := Lib.hid (fun W (hW : Below wd.heap.size wd W) => MX.out W (bel_trans' EA.out hW))
        have ZC4 := Lib.hid (fun W (hW : Below wd.heap.size wd W) => have k := BZ.out.below hW; show W.cell? ⟨z, 0, none⟩ = some (.int .i64 S.w) ∧ W.cell? ⟨z, 1, none⟩ = some (.int .i64 S.n) ∧ W.cell? ⟨z, 2, none⟩ = some (.slice A3 S.all.length c3) from ⟨k.cell 0, k.cell 1, k.cell 2⟩)
        have MZ4 := Lib.hid (fun W (hW : Below wd.heap.size wd W) => show Md (fun _ => True) W (.agg #[.int .i64 S.w, .int .i64 S.n, .slice A3 S.all.length c3]) S from ⟨_, rfl, VZ.out.below hW⟩)
        have BW4 := Lib.hid (BW.out.call EA.out)
        have OX := Lib.hid (fun W (hW : Below wd.heap.size wd W) => of_any (MX4.out W hW) (by have := LR.out.1; omega))
        have OZ := Lib.hid (fun W (hW : Below wd.heap.size wd W) => of_any (MZ4.out W hW) (by have := LS.out.1; omega))
        have RS := Lib.hid (fun W (N N' : Nat → Prop) v v' (h : Md N W v R) (h' : Md N' W v' S) => rsame_any h h' (by have := LR.out.1; omega) LR.out.2)
        have PS := Lib.hid (fun W (hW : Below wd.heap.size wd W) => same_any (MX4.out W hW) (MZ4.out W hW) (by have := LR.out.1; omega) LR.out.2)
        have OM4 := Lib.hid (fun W (hW : Below wd.heap.size wd W) => of_any (MD4.out W hW) (by have := LM.out; omega))
        have AT := Lib.hid (fun W (hW : Below wd.heap.size wd W) => at_any (blk := n) (MD4.out W hW) (by have := LM.out; omega) (fun V hV => (LEV.out V hV).1))
        have RA := Lib.hid (fun W (N : Nat → Prop) v (h : Md N W v M) => rat_any (blk := n) h (by have := LM.out; omega) (fun V hV => (LEV.out V hV).1))
        have BT := Lib.hid (fun W (hW : Below wd.heap.size wd W) => between_any (a := n) (b := b.n) (MD4.out W hW) (by have := LM.out; omega) (fun V hV => (LEV.out V hV).1))
        have RB := Lib.hid (fun W (N : Nat → Prop) v (h : Md N W v M) => rbetween_any (a := n) (b := b.n) h (by have := LM.out; omega) (fun V hV => (LEV.out V hV).1))
        have LL : Hid ((atM M n).1.length ≤ 1000) := Lib.hid (atM_len (fun V hV => (LEV.out V hV).1))
        have LC : Hid ((betweenM M n b.n).1.length ≤ 1000) := Lib.hid (betweenM_le M n b.n)
        generalize atM M n = P1 at *
        generalize betweenM M n b.n = P2 at *
        obtain ⟨l1, g1⟩ := P1
        obtain ⟨l2, g2⟩ := P2
        simp only at AT RA BT RB LL LC
        obtain ⟨rs, hrs⟩ : ∃ rs, rs = decide (R = S) := ⟨_, rfl⟩
        rw [← hrs] at RS PS
        clear hrs BZ VZ MX XC MD CELL BW DB VM OM OM1 RV EA
        go_cut [22] from 92 to 96 (fun v22 wx => v22 = .bool rs ∧ Hid (Below wd.heap.size wd wx))
        case first =>
          have ST : Hid (∀ W, Below wd.heap.size wd W → W.cell? ⟨x, 0, none⟩ = some (.int .i64 R.w) ∧ W.cell? ⟨x, 1, none⟩ = some (.int .i64 R.n) ∧ W.cell? ⟨x, 2, none⟩ = some (.slice A1 R.all.length c1) ∧ W.cell? ⟨z, 0, none⟩ = some (.int .i64 S.w) ∧ W.cell? ⟨z, 1, none⟩ = some (.int .i64 S.n) ∧ W.cell? ⟨z, 2, none⟩ = some (.slice A3 S.all.length c3)) := Lib.hid (fun W hW => ⟨(XC4.out W hW).1, (XC4.out W hW).2.1, (XC4.out W hW).2.2, (ZC4.out W hW).1, (ZC4.out W hW).2.1, (ZC4.out W hW).2.2⟩)
          have E0 : Hid (Below wd.heap.size wd wd.drew) := Lib.hid ((Bl.start wd).drewN 1).1
          go_region_held3 (fun W => W.cell? ⟨x, 0, none⟩ = some (.int .i64 R.w) ∧ W.cell? ⟨x, 1, none⟩ = some (.int .i64 R.n) ∧ W.cell? ⟨x, 2, none⟩ = some (.slice A1 R.all.length c1) ∧ W.cell? ⟨z, 0, none⟩ = some (.int .i64 S.w) ∧ W.cell? ⟨z, 1, none⟩ = some (.int .i64 S.n) ∧ W.cell? ⟨z, 2, none⟩ = some (.slice A3 S.all.length c3))
            (first | (with_reducible exact ST.out _ E0.out) | (with_reducible exact ST.out _ E1.out) | (with_reducible exact ST.out _ E2.out) | (with_reducible exact ST.out _ E3.out))
            (first
              | (go_at_call 14; (with_reducible refine (OX.out _ E0.out).mono ?_); rintro e w8 ⟨v8, rfl, hmd, hb⟩; have M8 := Lib.hid hmd; have E1 := Lib.hid (bel_trans' E0.out hb); clear hmd hb)
              | (go_at_call 14; (with_reducible refine (OZ.out _ E0.out).mono ?_); rintro e w8 ⟨v8, rfl, hmd, hb⟩; have N8 := Lib.hid hmd; have E1 := Lib.hid (bel_trans' E0.out hb); clear hmd hb)
              | (go_at_call 14; (with_reducible refine (OZ.out _ E1.out).mono ?_); rintro e w9 ⟨v9, rfl, hmd, hb⟩; have NZ := Lib.hid hmd; have NX := Lib.hid (M8.out.below hb); have E2 := Lib.hid (bel_trans' E1.out hb); clear hmd hb)
              | (go_at_call 14; (with_reducible refine (OX.out _ E1.out).mono ?_); rintro e w9 ⟨v9, rfl, hmd, hb⟩; have NX := Lib.hid hmd; have NZ := Lib.hid (N8.out.below hb); have E2 := Lib.hid (bel_trans' E1.out hb); clear hmd hb)
              | (go_at_call 15; (with_reducible refine (RS.out _ _ _ _ _ NX.out NZ.out).mono ?_); rintro e w10 ⟨rfl, hb⟩; have E3 := Lib.hid (bel_trans' E2.out hb); clear hb))
          all_goals (go_wp2_with fail; go_meet; exact ⟨rfl, E3⟩)
        case rest =>
          obtain ⟨e10, E14⟩ := hcut
          subst e10
          rename World => we
          obtain ⟨⟨x0, x1, x2⟩, ⟨y0, y1, y2⟩, z0, z1, z2⟩ := CELL4.out _ E14.out
          go_upto_region 18 with (first
            | (go_at_call 18; refine (AT.out _ E14.out).mono ?_; rintro e u1 ⟨v1, rfl, hes, hb⟩; have Q1 := Lib.hid hes.toEs; have E15 := Lib.hid (bel_trans' E14.out hb); clear hes; clear hb x0 x1 x2 y0 y1 y2 z0 z1 z2; obtain ⟨⟨x0, x1, x2⟩, ⟨y0, y1, y2⟩, z0, z1, z2⟩ := CELL4.out _ E15.out)
            | (go_at_call 14; refine (OM4.out _ E15.out).mono ?_; rintro e u2 ⟨v2, rfl, hmd, hb⟩; have M16 := Lib.hid hmd; have Q1b := Lib.hid (Q1.out.below hb); have E16 := Lib.hid (bel_trans' E15.out hb); clear hmd Q1; clear hb x0 x1 x2 y0 y1 y2 z0 z1 z2; obtain ⟨⟨x0, x1, x2⟩, ⟨y0, y1, y2⟩, z0, z1, z2⟩ := CELL4.out _ E16.out)
            | (go_at_call 19; refine (RA.out _ _ _ M16.out).mono ?_; rintro e u3 ⟨v3, rfl, hes, hb⟩; have Q2 := Lib.hid hes; have Q1c := Lib.hid (Q1b.out.below hb); have E17 := Lib.hid (bel_trans' E16.out hb); clear hes M16 Q1b; clear hb x0 x1 x2 y0 y1 y2 z0 z1 z2; obtain ⟨⟨x0, x1, x2⟩, ⟨y0, y1, y2⟩, z0, z1, z2⟩ := CELL4.out _ E17.out)
            | (go_at_call 20; refine (BT.out _ E17.out).mono ?_; rintro e u4 ⟨v4, rfl, hes, hb⟩; have Q3 := Lib.hid hes.toCs; have Q1d := Lib.hid (Q1c.out.below hb); have Q2d := Lib.hid (Q2.out.below hb); have E18 := Lib.hid (bel_trans' E17.out hb); clear hes Q1c Q2; clear hb x0 x1 x2 y0 y1 y2 z0 z1 z2; obtain ⟨⟨x0, x1, x2⟩, ⟨y0, y1, y2⟩, z0, z1, z2⟩ := CELL4.out _ E18.out))
          have ST : Hid (∀ W, Below wd.heap.size wd W → W.cell? ⟨g, 0, none⟩ = some (.int .i64 M.w) ∧ W.cell? ⟨g, 1, none⟩ = some (.int .i64 M.n) ∧ W.cell? ⟨g, 2, none⟩ = some (.slice Am M.all.length cm) ∧ W.cell? ⟨s, 2, none⟩ = some (.int .i64 b.n)) := Lib.hid (fun W hW => by
            obtain ⟨⟨x0, x1, x2⟩, _, _, _, z2⟩ := CELL4.out W hW
            exact ⟨x0, x1, x2, z2⟩)
          have hb : Below u4.heap.size u4 u4.drew := ((Bl.start u4).drewN 1).1
          have E0 := Lib.hid (bel_trans' E18.out hb)
          have Q1e := Lib.hid (Q1d.out.below hb)
          have Q2e := Lib.hid (Q2d.out.below hb)
          have Q3e := Lib.hid (Q3.out.below hb)
          clear Q1d Q2d Q3 hb x0 x1 x2 y0 y1 y2 z0 z1 z2
          go_region_held3 (fun W => W.cell? ⟨g, 0, none⟩ = some (.int .i64 M.w) ∧ W.cell? ⟨g, 1, none⟩ = some (.int .i64 M.n) ∧ W.cell? ⟨g, 2, none⟩ = some (.slice Am M.all.length cm) ∧ W.cell? ⟨s, 2, none⟩ = some (.int .i64 b.n))
            (first | (with_reducible exact ST.out _ E0.out) | (with_reducible exact ST.out _ E1.out) | (with_reducible exact ST.out _ E2.out))
            (first
              | (go_at_call 14; (with_reducible refine (OM4.out _ E0.out).mono ?_); rintro e u5 ⟨v5, rfl, hmd, hb⟩; have M5 := Lib.hid hmd; have Q1f := Lib.hid (Q1e.out.below hb); have Q2f := Lib.hid (Q2e.out.below hb); have Q3f := Lib.hid (Q3e.out.below hb); have E1 := Lib.hid (bel_trans' E0.out hb); clear hmd hb)
              | (go_at_call 21; (with_reducible refine (RB.out _ _ _ M5.out).mono ?_); rintro e u6 ⟨v6, rfl, hcs, hb⟩; have P4 := Lib.hid hcs; have P1 := Lib.hid (Q1f.out.below hb); have P2 := Lib.hid (Q2f.out.below hb); have P3 := Lib.hid (Q3f.out.below hb); have E2 := Lib.hid (bel_trans' E1.out hb); clear hcs hb))
          clear Q1e Q2e Q3e Q1f Q2f Q3f M5 ST AT RA BT RB OX OZ RS OM4
          obtain ⟨x0, x1, x2⟩ := XC4.out _ E2.out
          obtain ⟨y0, y1, y2⟩ := ZC4.out _ E2.out
          have PSa := Lib.hid (PS.out _ E2.out)
          have B2 := Lib.hid (BW4.out.call E2.out)
          clear PS E0 E1 E14 E15 E16 E17 E18 MX4 MZ4 MD4 CELL4 XC4 ZC4
          have SE := Lib.hid (fun W va vb (h1 : Es W va l1) (h2 : Es W vb l1) => sameE_self h1 h2 LL.out)
          have SC := Lib.hid (fun W va vb (h1 : Cs W va l2) (h2 : Cs W vb l2) => sameC_self h1 h2 LC.out)
          have FIN : ∃ q : Bool, q = rs := ⟨_, rfl⟩
          clear FIN
          cases rs
          all_goals
            go_wp2_with (first
              | (go_at_call 22; refine PSa.out.mono ?_; rintro e u7 ⟨rfl, hb⟩; have P1b := Lib.hid (P1.out.below hb); have P2b := Lib.hid (P2.out.below hb); have P3b := Lib.hid (P3.out.below hb); have P4b := Lib.hid (P4.out.below hb); have B7 := Lib.hid (B2.out.call hb); clear hb)
              | (go_at_call 23; refine (SE.out _ _ _ P1b.out P2b.out).mono ?_; rintro e u8 ⟨rfl, hb⟩; have P3c := Lib.hid (P3b.out.below hb); have P4c := Lib.hid (P4b.out.below hb); have B8 := Lib.hid (B7.out.call hb); clear hb)
              | (go_at_call 24; refine (SC.out _ _ _ P3c.out P4c.out).mono ?_; rintro e u9 ⟨rfl, hb⟩; have B9 := Lib.hid (B8.out.call hb); clear hb))
            go_ret
            exact ⟨rfl, B9.out.1⟩

end Go.Proofs.Ytdahhnefcageeaa
