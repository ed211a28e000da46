/-
  CanonDiffs: the walk.
-/
import Derived.Test.YtfeonjiiijdibaaGreatDoorCanTwice
namespace Go.Proofs.YtfeonjiiijdibaaGreatDoor
open Go.RowKit Go.Proofs.Nod Go.Proofs.Can
open Go.Proofs.Mdl hiding e0
set_option linter.unusedVariables false
set_option linter.unusedSimpArgs false
theorem diffM_lenC {a b : List Ent} (ha : Mdl.Good a) (hb : Mdl.Good b) : (diffM a b).length ≤ 80 := by
  rw [diffM_good ha hb]
  have := diff_len _ a b (Nat.le_refl _)
  have := ha.few
  have := hb.few
  omega
theorem drop_rev {α : Type} {l : List α} {p : Nat} {x : α} (hx : l[p]? = some x) : (l.drop p).reverse = (l.drop (p + 1)).reverse ++ [x] := by
  rw [List.drop_eq_getElem_cons (List.getElem?_eq_some_iff.1 hx).1, List.reverse_cons, (List.getElem?_eq_some_iff.1 hx).2]
set_option maxRecDepth 100000 in
set_option maxHeartbeats 8000000 in
theorem diffs_walk (w : World) (hL : LaidN w) (v0 : Value) (a : List Ent) (S0 : Es w v0 a) (v1 : Value) (b : List Ent) (S1 : Es w v1 b) :
    Calls Tryz.prog 7 #[v0, v1] w fun e w' => e = .returned (.bool true) ∧ Below w.heap.size w w' := by
  obtain ⟨A0, c0, rfl⟩ := S0.shape
  obtain ⟨A1, c1, rfl⟩ := S1.shape
  have WK := Lib.hid (cworks_any w hL)
  have FA := Lib.hid (fun W (hW : Below w.heap.size w W) => cfewE_any (S0.below hW))
  have FB := Lib.hid (fun W (hW : Below w.heap.size w W) => cfewE_any (S1.below hW))
  have CA := Lib.hid (fun W (hW : Below w.heap.size w W) (h : a.length ≤ 1000) => check_any (S0.below hW) h)
  have CB := Lib.hid (fun W (hW : Below w.heap.size w W) (h : b.length ≤ 1000) => check_any (S1.below hW) h)
  have HA := Lib.hid S0
  have HB := Lib.hid S1
  obtain ⟨na, hna⟩ : ∃ z, z = a.length := ⟨_, rfl⟩
  obtain ⟨nb, hnb⟩ : ∃ z, z = b.length := ⟨_, rfl⟩
  rw [← hna] at FA CA HA ⊢
  rw [← hnb] at FB CB HB ⊢
  have HNA := Lib.hid hna
  have HNB := Lib.hid hnb
  clear S0 S1 hL hna hnb
  go_enter Tryz.func7, Tryz.ntmps7
  go_wp2_with fail
  refine WK.out.mono ?_
  rintro e w1 ⟨rfl, hb⟩
  have B1 := Lib.hid hb
  clear hb WK
  go_wp2_with fail
  refine (FA.out _ B1.out).mono ?_
  rintro e w2 ⟨⟨bf, rfl, hbf, rfl⟩⟩
  have HBF := Lib.hid hbf
  clear hbf FA
  cases bf with
  | false =>
    clear FB CA CB
    go_wp2_with fail
    go_ret
    exact ⟨rfl, B1.out⟩
  | true =>
    have fa : Hid (na ≤ 45) := Lib.hid (HBF.out rfl)
    clear HBF
    go_wp2_with fail
    refine (FB.out _ B1.out).mono ?_
    rintro e w2 ⟨⟨bf, rfl, hbf, rfl⟩⟩
    have HBF := Lib.hid hbf
    clear hbf FB
    cases bf with
    | false =>
      clear CA CB
      go_wp2_with fail
      go_ret
      exact ⟨rfl, B1.out⟩
    | true =>
      have fb : Hid (nb ≤ 45) := Lib.hid (HBF.out rfl)
      clear HBF
      go_wp2_with fail
      refine (CA.out _ B1.out (by have := fa.out; omega)).mono ?_
      rintro e w3 ⟨rfl, hb⟩
      have B3 := Lib.hid (B1.out.trans (hb.mono B1.out.size))
      clear hb B1 CA
      by_cases ga : checkN a = 0
      case neg =>
        clear CB
        generalize checkN a = q at *
        go_wp2_with fail
        go_ret
        exact ⟨rfl, B3.out⟩
      case pos =>
        rw [ga]
        have GA := Lib.hid (good_iff.1 ga)
        clear ga
        go_wp2_with fail
        refine (CB.out _ B3.out (by have := fb.out; omega)).mono ?_
        rintro e w4 ⟨rfl, hb⟩
        have B4 := Lib.hid (B3.out.trans (hb.mono B3.out.size))
        clear hb B3 CB
        by_cases gb : checkN b = 0
        case neg =>
          generalize checkN b = q at *
          go_wp2_with fail
          go_ret
          exact ⟨rfl, B4.out⟩
        case pos =>
          rw [gb]
          have GB := Lib.hid (good_iff.1 gb)
          clear gb
          have DL := Lib.hid (diffM_lenC GA.out GB.out)
          have DF := Lib.hid (fun W va vb (h1 : Es W va a) (h2 : Es W vb b) => diff_any h1 h2 (by have := GA.out.few; omega) (by have := GB.out.few; omega))
          have DN0 := fun W va (h1 : Es W va a) => diff_any h1 h1 (by have := GA.out.few; omega) (by have := GA.out.few; omega)
          rw [diffM_none GA.out] at DN0
          have DN := Lib.hid DN0
          have DM0 := fun W va vb (h1 : Es W va b) (h2 : Es W vb b) => diff_any h1 h2 (by have := GB.out.few; omega) (by have := GB.out.few; omega)
          rw [diffM_none GB.out] at DM0
          have DM := Lib.hid DM0
          have AP0 := fun W va vc (h1 : Es W va a) (h2 : Cs W vc (diffM a b)) => apply_any h1 h2 (by have := GA.out.few; omega) (by have := DL.out; omega)
          rw [applyM_diff GA.out GB.out] at AP0
          have AP := Lib.hid AP0
          have AR0 := fun W va vc (h1 : Es W va a) (h2 : Cs W vc (diffM a b).reverse) => apply_any h1 h2 (by have := GA.out.few; omega) (by rw [List.length_reverse]; have := DL.out; omega)
          rw [applyM_back GA.out GB.out] at AR0
          have AR := Lib.hid AR0
          have SM := Lib.hid (fun W va vb (h : Es W va b) (h' : Es W vb b) => sameE_any h h' (by have := GB.out.few; omega))
          simp only [decide_true] at SM
          generalize diffM a b = ds at *
          clear DN0 DM0 AP0 AR0
          have HA4 := Lib.hid (HA.out.below B4.out)
          have HB4 := Lib.hid (HB.out.below B4.out)
          clear HA HB GA GB
          go_wp2_with fail
          refine (DF.out _ _ _ HA4.out HB4.out).mono ?_
          rintro e w5 ⟨v5, rfl, hcs, hb⟩
          obtain ⟨A5, c5, hv5⟩ := hcs.toCs.shape
          subst hv5
          have D5 := Lib.hid hcs.toCs
          have HA5 := Lib.hid (HA4.out.below hb)
          have HB5 := Lib.hid (HB4.out.below hb)
          have B5 := Lib.hid (B4.out.trans (hb.mono B4.out.size))
          obtain ⟨n, hn⟩ : ∃ n, n = ds.length := ⟨_, rfl⟩
          rw [← hn] at D5 ⊢
          have HN := Lib.hid hn
          clear hcs hb HA4 HB4 B4 hn DF
          go_wp2_with fail
          refine (AP.out _ _ _ HA5.out D5.out).mono ?_
          rintro e w6 ⟨v6, rfl, hes, hb⟩
          obtain ⟨A6, c6, hv6⟩ := hes.toEs.shape
          subst hv6
          have M6 := Lib.hid hes.toEs
          have D6 := Lib.hid (D5.out.below hb)
          have HA6 := Lib.hid (HA5.out.below hb)
          have HB6 := Lib.hid (HB5.out.below hb)
          have B6 := Lib.hid (B5.out.trans (hb.mono B5.out.size))
          rw [← HNB.out] at M6 ⊢
          clear hes hb HA5 HB5 B5 D5 AP
          have wn : IntKind.i64.wrap ((n : Int) - 1) = (n : Int) - 1 := IntWalk.i64_in _ (by have := DL.out; have := HN.out; omega)
          go_wp2_with fail
          go_loopw [10, 11] (fun vr vi wr => ∃ q : Nat, vi = .int .i64 ((q : Int) - 1) ∧ q ≤ n ∧ Hid (wr.ownsRow w6.heap.size 58 3 vr (ds.drop q).reverse.length (flatC (ds.drop q).reverse)) ∧ Hid (Bl w6.heap.size w6 wr)) (fun _ vi _ => (intOf vi + 1).toNat)
          case atStart => exact ⟨n, rfl, Nat.le_refl _, Lib.hid (by rw [HN.out, List.drop_length]; exact ⟨rfl, .inl ⟨rfl, rfl⟩⟩), Lib.hid (Bl.start w6)⟩
          case round =>
            obtain ⟨q, rfl, hq, OD, BD⟩ := hrel
            cases q with
            | succ p =>
              obtain ⟨x, hx⟩ : ∃ x, ds[p]? = some x := ⟨_, List.getElem?_eq_getElem (by rw [← HN.out]; exact hq)⟩
              have STEP := Lib.hid (drop_rev hx)
              rw [show ((p + 1 : Nat) : Int) - 1 = (p : Int) by omega]
              obtain ⟨b2, o2, c', hv, hbl, d0, d1, d2⟩ := (D6.out.below BD.out.1).at_ hx
              simp only [Value.slice.injEq] at hv
              obtain ⟨rfl, -, -⟩ := hv
              have i1 : (p : Int) ≥ 0 := by omega
              have i2 : (p : Int) < (n : Int) := by omega
              have wk : IntKind.i64.wrap ((p : Int) - 1) = (p : Int) - 1 := IntWalk.i64_in _ (by have := DL.out; have := HN.out; omega)
              have LD : Hid ((ds.drop (p + 1)).reverse.length ≤ 80) := Lib.hid (by rw [List.length_reverse, List.length_drop]; have := DL.out; omega)
              obtain ⟨ek, ev, eg⟩ := x
              simp only at d0 d1 d2 STEP
              obtain ⟨A7, c7, hv7⟩ := own_shape OD.out
              subst hv7
              generalize (ds.drop (p + 1)).reverse = done at *
              have NC := Lib.hid (new_cells wr 58 [.string ek, .string ev, .bool eg])
              have BA := Lib.hid (BD.out.alloc (.cells #[.string ek, .string ev, .bool eg] 58))
              have N1 : Hid (done.length + 1 ≤ 1000000) := Lib.hid (by have := LD.out; omega)
              have OM : Hid (∀ y ∈ [Value.string ek, .string ev, .bool eg], y.oneCell' = true) := Lib.hid (by simp [Value.oneCell'])
              clear hx LD
              go_wp2_with (at_builtin; (refine wpList_append_own (k := 3) (T := 58) (S := 35) elemChg infoChg rfl (by decide) (by decide) rfl _ _ rfl rfl w6.heap.size _ _ (flatC done) wr.heap.size 0 1 1 [.string ek, .string ev, .bool eg] rfl rfl (World.ownsRow.alloc OD.out _) rfl NC.out OM.out N1.out BA.out.2 ?_; intro v5 wb own5 gr5 _; have b5 := BA.out.grownRow (World.ownsRow.alloc OD.out _) (Nat.le_refl _) gr5; have BE := Lib.hid b5; have OE := Lib.hid own5; clear own5 gr5 b5))
              refine ⟨⟨p, rfl, by omega, ?_, BE⟩, by simp only [intOf]; omega⟩
              rw [STEP.out]
              exact Lib.hid (by rw [flatC_append, List.length_append]; exact OE.out)
            | zero =>
              have D7 := Lib.hid (Cs.of_own OD.out)
              rw [List.drop_zero] at D7
              obtain ⟨A7, c7, hv7⟩ := D7.out.shape
              subst hv7
              have HA7 := Lib.hid (HA6.out.below BD.out.1)
              have HB7 := Lib.hid (HB6.out.below BD.out.1)
              have M7 := Lib.hid (M6.out.below BD.out.1)
              have B7 := Lib.hid (B6.out.trans (BD.out.1.mono B6.out.size))
              rw [show ((0 : Nat) : Int) - 1 = -1 by omega]
              clear OD BD HA6 HB6 M6 B6 D6
              generalize ds.reverse.length = nr at *
              go_wp2_with fail
              refine (AR.out _ _ _ HA7.out D7.out).mono ?_
              rintro e w8 ⟨v8, rfl, hes, hb⟩
              obtain ⟨A8, c8, hv8⟩ := hes.toEs.shape
              subst hv8
              have N8 := Lib.hid hes.toEs
              have HA8 := Lib.hid (HA7.out.below hb)
              have HB8 := Lib.hid (HB7.out.below hb)
              have M8 := Lib.hid (M7.out.below hb)
              have B8 := Lib.hid (B7.out.trans (hb.mono B7.out.size))
              rw [← HNB.out] at N8 ⊢
              clear hes hb HA7 HB7 M7 B7 D7 AR
              go_wp2_with fail
              refine (SM.out _ _ _ M8.out HB8.out).mono ?_
              rintro e w9 ⟨rfl, hb⟩
              have HA9 := Lib.hid (HA8.out.below hb)
              have HB9 := Lib.hid (HB8.out.below hb)
              have M9 := Lib.hid (M8.out.below hb)
              have N9 := Lib.hid (N8.out.below hb)
              have B9 := Lib.hid (B8.out.trans (hb.mono B8.out.size))
              clear hb HA8 HB8 M8 N8 B8
              go_wp2_with fail
              refine (SM.out _ _ _ N9.out HB9.out).mono ?_
              rintro e w10 ⟨rfl, hb⟩
              have HA10 := Lib.hid (HA9.out.below hb)
              have HB10 := Lib.hid (HB9.out.below hb)
              have M10 := Lib.hid (M9.out.below hb)
              have B10 := Lib.hid (B9.out.trans (hb.mono B9.out.size))
              clear hb HA9 HB9 M9 N9 B9 SM
              go_wp2_with fail
              refine (DN.out _ _ HA10.out).mono ?_
              rintro e w11 ⟨v11, rfl, hcs, hb⟩
              obtain ⟨A11, c11, hv11⟩ := hcs.toCs.shape
              subst hv11
              have HB11 := Lib.hid (HB10.out.below hb)
              have M11 := Lib.hid (M10.out.below hb)
              have B11 := Lib.hid (B10.out.trans (hb.mono B10.out.size))
              clear hb HA10 HB10 M10 B10 DN hcs
              simp only [List.length_nil]
              go_wp2_with fail
              refine (DM.out _ _ _ M11.out HB11.out).mono ?_
              rintro e w12 ⟨v12, rfl, hcs, hb⟩
              obtain ⟨A12, c12, hv12⟩ := hcs.toCs.shape
              subst hv12
              have B12 := Lib.hid (B11.out.trans (hb.mono B11.out.size))
              clear hb HB11 M11 B11 DM hcs
              simp only [List.length_nil]
              go_wp2_with fail
              go_ret
              exact ⟨rfl, B12.out⟩
end Go.Proofs.YtfeonjiiijdibaaGreatDoor
