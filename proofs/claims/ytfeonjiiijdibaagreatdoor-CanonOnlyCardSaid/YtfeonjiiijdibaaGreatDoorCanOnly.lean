/-
  CanonOnly: the walk.
-/
import Derived.Test.YtfeonjiiijdibaaGreatDoorCanTwice
import Derived.Test.YtfeonjiiijdibaaGreatDoorCanApart
namespace Go.Proofs.YtfeonjiiijdibaaGreatDoor
open Go.RowKit Go.Proofs.Nod Go.Proofs.Can
open Go.Proofs.Mdl hiding e0
set_option linter.unusedVariables false
set_option linter.unusedSimpArgs false
set_option maxRecDepth 100000 in
set_option maxHeartbeats 8000000 in
theorem only_walk (w : World) (hL : LaidN w) (v0 : Value) (a : List Ent) (S0 : Es w v0 a) (v1 : Value) (b : List Ent) (S1 : Es w v1 b) :
    Calls Tryz.prog 5 #[v0, v1] w fun e w' => e = .returned (.bool true) ∧ Below w.heap.size w w' := by
  obtain ⟨A0, c0, rfl⟩ := S0.shape
  obtain ⟨A1, c1, rfl⟩ := S1.shape
  have WK := Lib.hid (cworks_any w hL)
  have FA := Lib.hid (fun W (hW : Below w.heap.size w W) => cfewE_any (S0.below hW))
  have FB := Lib.hid (fun W (hW : Below w.heap.size w W) => cfewE_any (S1.below hW))
  have CA := Lib.hid (fun W (hW : Below w.heap.size w W) (h : a.length ≤ 1000) => check_any (S0.below hW) h)
  have CB := Lib.hid (fun W (hW : Below w.heap.size w W) (h : b.length ≤ 1000) => check_any (S1.below hW) h)
  have RA := Lib.hid (fun W (hW : Below w.heap.size w W) (h : Mdl.Good a) => root_ok (S0.below hW) h (hL.on hW))
  have RB := Lib.hid (fun W (hW : Below w.heap.size w W) (h : Mdl.Good b) => root_ok (S1.below hW) h (hL.on hW))
  have CL := Lib.hid (fun W (hW : Below w.heap.size w W) (ha : Mdl.Good a) (hb : Mdl.Good b) => clash_ok (S0.below hW) (S1.below hW) ha hb (hL.on hW))
  have SE := Lib.hid (fun W (hW : Below w.heap.size w W) (h : a.length ≤ 1000) => sameE_any (S0.below hW) (S1.below hW) h)
  have LA : Hid (∀ W, Below w.heap.size w W → LaidN W) := Lib.hid (fun W h => hL.on h)
  obtain ⟨na, hna⟩ : ∃ z, z = a.length := ⟨_, rfl⟩
  obtain ⟨nb, hnb⟩ : ∃ z, z = b.length := ⟨_, rfl⟩
  rw [← hna] at FA CA RA CL SE ⊢
  rw [← hnb] at FB CB RB CL SE ⊢
  have HNA := Lib.hid hna
  have HNB := Lib.hid hnb
  clear S0 S1 hL hna hnb
  go_enter Tryz.func5, Tryz.ntmps5
  go_wp2_with fail
  refine WK.out.mono ?_
  rintro e w1 ⟨rfl, hb⟩
  have B1 := Lib.hid hb
  clear hb WK
  go_wp2_with fail
  refine (FA.out _ B1.out).mono ?_
  rintro e w2 ⟨⟨bf, rfl, hbf, rfl⟩⟩
  have HBF := Lib.hid hbf
  clear hbf FA
  cases bf with
  | false =>
    clear FB CA CB RA RB CL SE
    go_wp2_with fail
    go_ret
    exact ⟨rfl, B1.out⟩
  | true =>
    have fa : Hid (na ≤ 45) := Lib.hid (HBF.out rfl)
    clear HBF
    go_wp2_with fail
    refine (FB.out _ B1.out).mono ?_
    rintro e w2 ⟨⟨bf, rfl, hbf, rfl⟩⟩
    have HBF := Lib.hid hbf
    clear hbf FB
    cases bf with
    | false =>
      clear CA CB RA RB CL SE
      go_wp2_with fail
      go_ret
      exact ⟨rfl, B1.out⟩
    | true =>
      have fb : Hid (nb ≤ 45) := Lib.hid (HBF.out rfl)
      clear HBF
      go_wp2_with fail
      refine (CA.out _ B1.out (by have := fa.out; omega)).mono ?_
      rintro e w3 ⟨rfl, hb⟩
      have B3 := Lib.hid (B1.out.trans (hb.mono B1.out.size))
      clear hb B1 CA
      by_cases ga : checkN a = 0
      case neg =>
        clear CB RA RB CL SE
        generalize checkN a = q at *
        go_wp2_with fail
        go_ret
        exact ⟨rfl, B3.out⟩
      case pos =>
        rw [ga]
        have GA := Lib.hid (good_iff.1 ga)
        clear ga
        go_wp2_with fail
        refine (CB.out _ B3.out (by have := fb.out; omega)).mono ?_
        rintro e w4 ⟨rfl, hb⟩
        have B4 := Lib.hid (B3.out.trans (hb.mono B3.out.size))
        clear hb B3 CB
        by_cases gb : checkN b = 0
        case neg =>
          clear RA RB CL SE
          generalize checkN b = q at *
          go_wp2_with fail
          go_ret
          exact ⟨rfl, B4.out⟩
        case pos =>
          rw [gb]
          have GB := Lib.hid (good_iff.1 gb)
          clear gb
          have AP : Hid (¬ a = b → shaB (topM a) = shaB (topM b) → ∃ x y, clashM a b = some (x, y) ∧ ¬ x = y ∧ shaB x = shaB y ∧ x.size ≤ 1000 ∧ y.size ≤ 1000) := Lib.hid (clash_some GA.out GB.out)
          go_wp2_with fail
          refine (RA.out _ B4.out GA.out).mono ?_
          rintro e w5 ⟨rfl, hb⟩
          have B5 := Lib.hid (B4.out.trans (hb.mono B4.out.size))
          clear hb B4 RA
          go_wp2_with fail
          refine (RB.out _ B5.out GB.out).mono ?_
          rintro e w6 ⟨rfl, hb⟩
          have B6 := Lib.hid (B5.out.trans (hb.mono B5.out.size))
          clear hb B5 RB
          by_cases hq : a = b
          case pos =>
            have hcl : clashM a b = none := by unfold clashM; rw [if_pos hq]
            rw [hcl] at CL
            dsimp only [firstV] at CL
            have hs : shaB (topM a) = shaB (topM b) := by rw [hq]
            rw [hs]
            rw [decide_eq_true hq] at SE
            clear hq hcl hs AP
            generalize shaB (topM b) = R at *
            go_wp2_with fail
            refine (CL.out _ B6.out GA.out GB.out).mono ?_
            rintro e w7 ⟨rfl, hb⟩
            have B7 := Lib.hid (B6.out.trans (hb.mono B6.out.size))
            clear hb B6 CL
            go_wp2_with fail
            refine (SE.out _ B7.out (by have := fa.out; omega)).mono ?_
            rintro e w8 ⟨rfl, hb⟩
            have B8 := Lib.hid (B7.out.trans (hb.mono B7.out.size))
            clear hb B7 SE
            go_wp2_with fail
            go_ret
            exact ⟨rfl, B8.out⟩
          case neg =>
            rw [decide_eq_false hq] at SE
            by_cases hs : shaB (topM a) = shaB (topM b)
            case neg =>
              have hcl : clashM a b = none := by unfold clashM; rw [if_neg hq, if_neg hs]
              have be : ((shaB (topM a)).toList == (shaB (topM b)).toList) = false := by rw [bytes_eqF]; exact decide_eq_false hs
              rw [hcl] at CL
              dsimp only [firstV] at CL
              clear hq hcl AP
              clear hs
              generalize shaB (topM a) = R at *
              generalize shaB (topM b) = S at *
              go_wp2_with fail
              refine (CL.out _ B6.out GA.out GB.out).mono ?_
              rintro e w7 ⟨rfl, hb⟩
              have B7 := Lib.hid (B6.out.trans (hb.mono B6.out.size))
              clear hb B6 CL
              go_wp2_with fail
              refine (SE.out _ B7.out (by have := fa.out; omega)).mono ?_
              rintro e w8 ⟨rfl, hb⟩
              have B8 := Lib.hid (B7.out.trans (hb.mono B7.out.size))
              clear hb B7 SE
              go_wp2_with fail
              go_ret
              exact ⟨rfl, B8.out⟩
            case pos =>
              obtain ⟨x, y, hcl, hxy, hxs, zx, zy⟩ := AP.out hq hs
              rw [hcl] at CL
              dsimp only [firstV] at CL
              rw [hs]
              have CO := Lib.hid (fun W (hW : Below w.heap.size w W) => collide_nd x y W (LA.out _ hW).sha (by omega) (by omega))
              rw [col_yes hxy hxs] at CO
              clear hq hcl hs AP hxy hxs zx zy
              generalize shaB (topM b) = R at *
              go_wp2_with fail
              refine (CL.out _ B6.out GA.out GB.out).mono ?_
              rintro e w7 ⟨rfl, hb⟩
              have B7 := Lib.hid (B6.out.trans (hb.mono B6.out.size))
              clear hb B6 CL
              go_wp2_with fail
              refine (SE.out _ B7.out (by have := fa.out; omega)).mono ?_
              rintro e w8 ⟨rfl, hb⟩
              have B8 := Lib.hid (B7.out.trans (hb.mono B7.out.size))
              clear hb B7 SE
              go_wp2_with fail
              refine (CO.out _ B8.out).mono ?_
              rintro e w9 ⟨rfl, hb⟩
              have B9 := Lib.hid (B8.out.trans (hb.mono B8.out.size))
              clear hb B8 CO
              go_wp2_with fail
              go_ret
              exact ⟨rfl, B9.out⟩
end Go.Proofs.YtfeonjiiijdibaaGreatDoor
