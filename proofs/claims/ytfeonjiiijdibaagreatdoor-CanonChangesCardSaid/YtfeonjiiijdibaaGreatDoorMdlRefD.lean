/-
  The document's answer: Diff (written by makers/mdlrdiff.py).
-/
import Derived.Test.YtfeonjiiijdibaaGreatDoorGaMdR2
import Derived.Deep.RegionLaw
namespace Go.Proofs.YtfeonjiiijdibaaGreatDoor
open Go.RowKit Go.Proofs.Mdl
set_option linter.unusedVariables false
set_option linter.unusedSimpArgs false
theorem one_flat1 (k v : ByteArray) (b : Bool) : ∀ y ∈ ([.string k, .string v, .bool b] : List Value), y.oneCell' = true := one_flatC [⟨k, v, b⟩]
set_option maxRecDepth 100000 in
set_option maxHeartbeats 2000000 in
theorem rdiff_any {w : World} {va vb : Value} {a b : List Ent} (ha : Es w va a) (hb : Es w vb b) (hla : a.length ≤ 1000) (hlb : b.length ≤ 1000) :
    Calls Tryz.prog 30 #[va, vb] w fun e w' => ∃ v', e = .returned v' ∧ CsN (fun b => w.heap.size ≤ b) w' v' (diffM a b) ∧ Below w.heap.size w w' := by
  have CA := Lib.hid (fun W (hW : Below w.heap.size w W) => rcheck_any (ha.below hW) hla)
  have CB := Lib.hid (fun W (hW : Below w.heap.size w W) => rcheck_any (hb.below hW) hlb)
  have HA := Lib.hid ha
  have HB := Lib.hid hb
  obtain ⟨A, ca, rfl⟩ := ha.shape
  obtain ⟨B, cb, rfl⟩ := hb.shape
  have W0 := Lib.hid (Below.refl w.heap.size w)
  clear ha hb
  by_cases h0 : checkN a = 0
  · by_cases h1 : checkN b = 0
    · have HD : Hid (diffM a b = diffL a b) := Lib.hid (by unfold diffM; rw [if_pos ⟨h0, h1⟩])
      have GA := Lib.hid (good_iff.1 h0)
      have GB := Lib.hid (good_iff.1 h1)
      rw [h0] at CA
      rw [h1] at CB
      clear h0 h1
      go_enter Tryz.func30, Tryz.ntmps30
      go_wp2_with fail
      refine (CA.out _ W0.out).mono ?_
      rintro e w1 ⟨rfl, hb1⟩
      have HB1 := Lib.hid (drew_bel hb1)
      clear hb1
      go_wp2_with fail
      refine (CB.out _ HB1.out).mono ?_
      rintro e w2 ⟨rfl, hb2⟩
      have HB2 := Lib.hid (bel_trans' HB1.out (drew_bel hb2))
      clear hb2 HB1 CA CB
      go_upto_region 4 with (fail)
      have KA : Hid (∀ e ∈ a, e.k.size ≤ 1000000) := Lib.hid (fun e he => by have := GA.out.ok e he; unfold entOk at this; rw [Bool.and_eq_true] at this; exact keyOk_size this.1)
      have KB : Hid (∀ e ∈ b, e.k.size ≤ 1000000) := Lib.hid (fun e he => by have := GB.out.ok e he; unfold entOk at this; rw [Bool.and_eq_true] at this; exact keyOk_size this.1)
      go_loopw [0, 1, 5] (fun v0 v1 v5 wr => ∃ (x y : List Ent) (done : List Chg), Hid (Es w2 v0 x) ∧ Hid (Es w2 v1 y) ∧ Hid (∀ e ∈ x, e.k.size ≤ 1000000) ∧ Hid (∀ e ∈ y, e.k.size ≤ 1000000) ∧ x.length ≤ 1000 ∧ y.length ≤ 1000 ∧ Hid (done.length + x.length + y.length ≤ 2000) ∧ Hid (wr.ownsRow w2.heap.size 58 3 v5 done.length (flatC done)) ∧ Hid (done ++ diffL x y = diffL a b) ∧ Hid (Bl w2.heap.size w2 wr)) (fun v0 v1 _ _ => slLen v0 + slLen v1)
      case atStart => exact ⟨a, b, [], Lib.hid (HA.out.below HB2.out), Lib.hid (HB.out.below HB2.out), KA, KB, hla, hlb, Lib.hid (by simp; omega), Lib.hid ⟨rfl, .inl ⟨rfl, rfl⟩⟩, Lib.hid rfl, Lib.hid (Bl.start w2)⟩
      case round =>
        obtain ⟨x, y, done, EX, EY, KX, KY, hx, hy, DL, OD, DD, BD⟩ := hrel
        obtain ⟨Ax, cx, hv0⟩ := EX.out.shape
        obtain ⟨Ay, cy, hv1⟩ := EY.out.shape
        obtain ⟨Ao, co, hv5⟩ := own_shape OD.out
        subst hv0; subst hv1; subst hv5
        cases x with
        | nil =>
          cases y with
          | nil =>
            simp only [List.length_nil]
            go_wp2_with fail
            go_ret
            exact ⟨_, rfl, by rw [HD.out, ← DD.out, diffL_nn, List.append_nil]; exact CsN.of_own OD.out HB2.out.size, bel_trans' HB2.out BD.out.1⟩
          | cons ye y =>
            simp only [List.length_cons, List.length_nil] at EX EY hx hy DL ⊢
            obtain ⟨ky, oy, cy2, hvy, hby, ay0, ay1⟩ := EY.out.at_ (k := 0) rfl
            simp only [Value.slice.injEq] at hvy
            obtain ⟨rfl, -, -⟩ := hvy
            obtain ⟨yk, yv⟩ := ye
            simp only [Nat.zero_mul, Nat.add_zero] at ay0 ay1
            have AY : Hid (∀ W, Below w2.heap.size w2 W → W.cell? ⟨ky, oy, none⟩ = some (.string yk) ∧ W.cell? ⟨ky, oy + 1, none⟩ = some (.string yv)) := Lib.hid (fun W hW => ⟨(hW.cell (p := ⟨ky, _, none⟩) hby).trans ay0, (hW.cell (p := ⟨ky, _, none⟩) hby).trans ay1⟩)
            obtain ⟨Ay2, hsy, hty⟩ := EY.out.tail
            have SY := Lib.hid hsy
            have EY2 := Lib.hid hty
            have KYS : Hid (yk.size ≤ 1000000) := Lib.hid (KY.out _ (List.mem_cons_self ..))
            have KY2 : Hid (∀ e ∈ y, e.k.size ≤ 1000000) := Lib.hid (fun e he => KY.out e (List.mem_cons_of_mem _ he))
            obtain ⟨ny, hny⟩ : ∃ n, n = y.length + 1 := ⟨_, rfl⟩
            have HNY := Lib.hid hny
            rw [← hny] at SY EY ⊢
            have y1 : (0 : Int) < (ny : Int) := by omega
            have y3 : ((ny : Int) == 0) = false := by simp; omega
            have y4 : ¬ (ny : Int) = 0 := by omega
            have y5 : ¬ ny = 0 := by omega
            have y6 : 0 < ny := by omega
            clear hny
            obtain ⟨ry0, ry1⟩ := AY.out _ BD.out.1
            clear hsy hty ay0 ay1 hby
            have E0 : (((0 : Nat) : Int) == 0) = true := by rfl
            go_wp2_with fail
            go_quiet (fail)
            have OD1 := Lib.hid (own_drewN OD.out nq)
            have BD1 := Lib.hid (BD.out.drewN nq)
            clear ry0 ry1
            obtain ⟨ry0, ry1⟩ := AY.out _ BD1.out.1
            generalize wr.drewN nq = wa at *
            clear OD BD
            go_wp2_with fail
            go_quiet (fail)
            have OD2 := Lib.hid (own_drewN OD1.out nq)
            have BD2 := Lib.hid (BD1.out.drewN nq)
            clear ry0 ry1
            obtain ⟨ry0, ry1⟩ := AY.out _ BD2.out.1
            generalize wa.drewN nq = wc at *
            clear OD1 BD1
            go_wp2_with fail
            have OW6 : Hid (((wc.alloc (.cells #[.string yk, .string yv, .bool false] 58)).drew).ownsRow w2.heap.size 58 3 (.slice Ao done.length co) done.length (flatC done)) := Lib.hid (own_drewN (World.ownsRow.alloc OD2.out _) 1)
            have BA : Hid (Bl w2.heap.size w2 ((wc.alloc (.cells #[.string yk, .string yv, .bool false] 58)).drew)) := Lib.hid ((BD2.out.alloc _).drewN 1)
            have NC : Hid (∀ j y, [Value.string yk, .string yv, .bool false][j]? = some y → ((wc.alloc (.cells #[.string yk, .string yv, .bool false] 58)).drew).cell? ⟨wc.heap.size, 0 + j, none⟩ = some y) := Lib.hid (new_cells wc 58 [.string yk, .string yv, .bool false])
            have N1 : Hid (done.length + 1 ≤ 1000000) := Lib.hid (by have := DL.out; omega)
            have OM := Lib.hid (one_flat1 yk yv false)
            go_region_law (refine step_append_own (k := 3) (T := 58) (S := 35) elemChg infoChg rfl (by decide) (by decide) rfl (.tmp 65) (.tmp 75) rfl rfl w2.heap.size _ _ _ wc.heap.size 0 1 1 [.string yk, .string yv, .bool false] rfl rfl OW6.out rfl NC.out OM.out N1.out BA.out.2 ?_; intro v5 wb own5 gr5 _; (have b5 := BA.out.grownRow OW6.out (Nat.le_refl _) gr5); (have BE := Lib.hid b5); (have OE := Lib.hid own5); (obtain ⟨Ae, ce, he5⟩ := own_shape own5); (subst he5); (clear own5 gr5 b5))
            all_goals (
              have OE2 : Hid (wb.ownsRow w2.heap.size 58 3 (.slice Ae (done.length + 1) ce) (done ++ [(⟨yk, yv, false⟩ : Chg)]).length (flatC (done ++ [(⟨yk, yv, false⟩ : Chg)]))) := Lib.hid (by rw [flatC_append, List.length_append]; exact OE.out)
              have sy := SY.out
              clear ry0 ry1 NC OM BA OE OW6
              go_wp2_with fail
              refine ⟨⟨[], y, _, EX, EY2, KX, KY2, (by first | exact hx | omega | simp), (by first | exact hy | omega | simp), Lib.hid (by have := DL.out; simp; omega), OE2, Lib.hid ?_, BE⟩, by have h2 := HNY.out; simp only [slLen, List.length_nil]; omega⟩
              rw [List.append_assoc, List.singleton_append]
              exact (by rw [← DD.out, diffL_nc]))
        | cons xe x =>
          cases y with
          | nil =>
            simp only [List.length_cons, List.length_nil] at EX EY hx hy DL ⊢
            obtain ⟨kx, ox, cx2, hvx, hbx, ax0, ax1⟩ := EX.out.at_ (k := 0) rfl
            simp only [Value.slice.injEq] at hvx
            obtain ⟨rfl, -, -⟩ := hvx
            obtain ⟨xk, xv⟩ := xe
            simp only [Nat.zero_mul, Nat.add_zero] at ax0 ax1
            have AX : Hid (∀ W, Below w2.heap.size w2 W → W.cell? ⟨kx, ox, none⟩ = some (.string xk) ∧ W.cell? ⟨kx, ox + 1, none⟩ = some (.string xv)) := Lib.hid (fun W hW => ⟨(hW.cell (p := ⟨kx, _, none⟩) hbx).trans ax0, (hW.cell (p := ⟨kx, _, none⟩) hbx).trans ax1⟩)
            obtain ⟨Ax2, hsx, htx⟩ := EX.out.tail
            have SX := Lib.hid hsx
            have EX2 := Lib.hid htx
            have KXS : Hid (xk.size ≤ 1000000) := Lib.hid (KX.out _ (List.mem_cons_self ..))
            have KX2 : Hid (∀ e ∈ x, e.k.size ≤ 1000000) := Lib.hid (fun e he => KX.out e (List.mem_cons_of_mem _ he))
            obtain ⟨nx, hnx⟩ : ∃ n, n = x.length + 1 := ⟨_, rfl⟩
            have HNX := Lib.hid hnx
            rw [← hnx] at SX EX ⊢
            have x1 : (0 : Int) < (nx : Int) := by omega
            have x3 : ((nx : Int) == 0) = false := by simp; omega
            have x4 : ¬ (nx : Int) = 0 := by omega
            have x5 : ¬ nx = 0 := by omega
            have x6 : 0 < nx := by omega
            clear hnx
            obtain ⟨rx0, rx1⟩ := AX.out _ BD.out.1
            clear hsx htx ax0 ax1 hbx
            go_wp2_with fail
            go_quiet (fail)
            have OD1 := Lib.hid (own_drewN OD.out nq)
            have BD1 := Lib.hid (BD.out.drewN nq)
            clear rx0 rx1
            obtain ⟨rx0, rx1⟩ := AX.out _ BD1.out.1
            generalize wr.drewN nq = wa at *
            clear OD BD
            have BA := Lib.hid (BD1.out.alloc (.cells #[.string xk, .string ⟨#[]⟩, .bool true] 58))
            have NC := Lib.hid (new_cells wa 58 [.string xk, .string ⟨#[]⟩, .bool true])
            have N1 : Hid (done.length + 1 ≤ 1000000) := Lib.hid (by have := DL.out; omega)
            have OM := Lib.hid (one_flat1 xk ⟨#[]⟩ true)
            have sx := SX.out
            go_wp2_with (at_builtin; (refine wpList_append_own (k := 3) (T := 58) (S := 35) elemChg infoChg rfl (by decide) (by decide) rfl _ _ rfl rfl w2.heap.size _ _ (flatC done) wa.heap.size 0 1 1 [.string xk, .string ⟨#[]⟩, .bool true] rfl rfl (World.ownsRow.alloc OD1.out _) rfl NC.out OM.out N1.out BA.out.2 ?_; intro v5 wb own5 gr5 _; have b5 := BA.out.grownRow (World.ownsRow.alloc OD1.out _) (Nat.le_refl _) gr5; have BE := Lib.hid b5; have OE := Lib.hid own5; clear own5 gr5 b5))
            have OE2 : Hid (wb.ownsRow w2.heap.size 58 3 v5 (done ++ [(⟨xk, ⟨#[]⟩, true⟩ : Chg)]).length (flatC (done ++ [(⟨xk, ⟨#[]⟩, true⟩ : Chg)]))) := Lib.hid (by rw [flatC_append, List.length_append]; exact OE.out)
            refine ⟨⟨x, [], _, EX2, EY, KX2, KY, (by first | exact hx | omega | simp), (by first | exact hy | omega | simp), Lib.hid (by have := DL.out; simp; omega), OE2, Lib.hid ?_, BE⟩, by have h1 := HNX.out; simp only [slLen, List.length_nil]; omega⟩
            rw [List.append_assoc, List.singleton_append]
            exact (by rw [← DD.out, diffL_cn]; rfl)
          | cons ye y =>
            simp only [List.length_cons, List.length_nil] at EX EY hx hy DL ⊢
            obtain ⟨kx, ox, cx2, hvx, hbx, ax0, ax1⟩ := EX.out.at_ (k := 0) rfl
            simp only [Value.slice.injEq] at hvx
            obtain ⟨rfl, -, -⟩ := hvx
            obtain ⟨xk, xv⟩ := xe
            simp only [Nat.zero_mul, Nat.add_zero] at ax0 ax1
            have AX : Hid (∀ W, Below w2.heap.size w2 W → W.cell? ⟨kx, ox, none⟩ = some (.string xk) ∧ W.cell? ⟨kx, ox + 1, none⟩ = some (.string xv)) := Lib.hid (fun W hW => ⟨(hW.cell (p := ⟨kx, _, none⟩) hbx).trans ax0, (hW.cell (p := ⟨kx, _, none⟩) hbx).trans ax1⟩)
            obtain ⟨Ax2, hsx, htx⟩ := EX.out.tail
            have SX := Lib.hid hsx
            have EX2 := Lib.hid htx
            have KXS : Hid (xk.size ≤ 1000000) := Lib.hid (KX.out _ (List.mem_cons_self ..))
            have KX2 : Hid (∀ e ∈ x, e.k.size ≤ 1000000) := Lib.hid (fun e he => KX.out e (List.mem_cons_of_mem _ he))
            obtain ⟨nx, hnx⟩ : ∃ n, n = x.length + 1 := ⟨_, rfl⟩
            have HNX := Lib.hid hnx
            rw [← hnx] at SX EX ⊢
            have x1 : (0 : Int) < (nx : Int) := by omega
            have x3 : ((nx : Int) == 0) = false := by simp; omega
            have x4 : ¬ (nx : Int) = 0 := by omega
            have x5 : ¬ nx = 0 := by omega
            have x6 : 0 < nx := by omega
            clear hnx
            obtain ⟨rx0, rx1⟩ := AX.out _ BD.out.1
            clear hsx htx ax0 ax1 hbx
            obtain ⟨ky, oy, cy2, hvy, hby, ay0, ay1⟩ := EY.out.at_ (k := 0) rfl
            simp only [Value.slice.injEq] at hvy
            obtain ⟨rfl, -, -⟩ := hvy
            obtain ⟨yk, yv⟩ := ye
            simp only [Nat.zero_mul, Nat.add_zero] at ay0 ay1
            have AY : Hid (∀ W, Below w2.heap.size w2 W → W.cell? ⟨ky, oy, none⟩ = some (.string yk) ∧ W.cell? ⟨ky, oy + 1, none⟩ = some (.string yv)) := Lib.hid (fun W hW => ⟨(hW.cell (p := ⟨ky, _, none⟩) hby).trans ay0, (hW.cell (p := ⟨ky, _, none⟩) hby).trans ay1⟩)
            obtain ⟨Ay2, hsy, hty⟩ := EY.out.tail
            have SY := Lib.hid hsy
            have EY2 := Lib.hid hty
            have KYS : Hid (yk.size ≤ 1000000) := Lib.hid (KY.out _ (List.mem_cons_self ..))
            have KY2 : Hid (∀ e ∈ y, e.k.size ≤ 1000000) := Lib.hid (fun e he => KY.out e (List.mem_cons_of_mem _ he))
            obtain ⟨ny, hny⟩ : ∃ n, n = y.length + 1 := ⟨_, rfl⟩
            have HNY := Lib.hid hny
            rw [← hny] at SY EY ⊢
            have y1 : (0 : Int) < (ny : Int) := by omega
            have y3 : ((ny : Int) == 0) = false := by simp; omega
            have y4 : ¬ (ny : Int) = 0 := by omega
            have y5 : ¬ ny = 0 := by omega
            have y6 : 0 < ny := by omega
            clear hny
            obtain ⟨ry0, ry1⟩ := AY.out _ BD.out.1
            clear hsy hty ay0 ay1 hby
            rcases hq : ltB xk yk with _ | _
            · have AM := Lib.hid (fun W => hq ▸ ahead_any xk yk KXS.out KYS.out W)
              by_cases he : xk = yk
              · have e1 : (xk.toList == yk.toList) = true := by rw [he]; simp
                have e2 : (xk.toList != yk.toList) = false := by rw [he]; simp
                have e3 : xk.toList = yk.toList := by rw [he]
                by_cases hv : xv = yv
                · have e4 : (xv.toList == yv.toList) = true := by rw [hv]; simp
                  have e5 : (xv.toList != yv.toList) = false := by rw [hv]; simp
                  have e6 : xv.toList = yv.toList := by rw [hv]
                  have DD2 : Hid (done ++ diffL x y = diffL a b) := Lib.hid (by rw [← DD.out, diffL_cc, he, ltB_irrefl, hv]; simp)
                  clear hq he hv
                  go_wp2_with fail
                  go_quiet ((go_at_call 39; exact quietly0 (AM.out _)))
                  have OD1 := Lib.hid (own_drewN OD.out nq)
                  have BD1 := Lib.hid (BD.out.drewN nq)
                  clear rx0 rx1 ry0 ry1
                  obtain ⟨rx0, rx1⟩ := AX.out _ BD1.out.1
                  obtain ⟨ry0, ry1⟩ := AY.out _ BD1.out.1
                  generalize wr.drewN nq = wa at *
                  clear OD BD
                  go_wp2_with fail
                  go_quiet (fail)
                  have OD2 := Lib.hid (own_drewN OD1.out nq)
                  have BD2 := Lib.hid (BD1.out.drewN nq)
                  clear rx0 rx1 ry0 ry1
                  obtain ⟨rx0, rx1⟩ := AX.out _ BD2.out.1
                  obtain ⟨ry0, ry1⟩ := AY.out _ BD2.out.1
                  generalize wa.drewN nq = wc at *
                  clear OD1 BD1
                  go_wp2_with fail
                  go_quiet (fail)
                  have OD3 := Lib.hid (own_drewN OD2.out nq)
                  have BD3 := Lib.hid (BD2.out.drewN nq)
                  clear rx0 rx1 ry0 ry1
                  obtain ⟨rx0, rx1⟩ := AX.out _ BD3.out.1
                  obtain ⟨ry0, ry1⟩ := AY.out _ BD3.out.1
                  generalize wc.drewN nq = wd at *
                  clear OD2 BD2
                  have sx := SX.out
                  have sy := SY.out
                  go_wp2_with fail
                  exact ⟨⟨x, y, done, EX2, EY2, KX2, KY2, by omega, by omega, Lib.hid (by have := DL.out; omega), OD3, DD2, BD3⟩, by have h1 := HNX.out; have h2 := HNY.out; simp only [slLen]; omega⟩
                · have e4 : (xv.toList == yv.toList) = false := by simp; exact fun e => hv (tl_iff.1 e)
                  have e5 : (xv.toList != yv.toList) = true := by simp; exact fun e => hv (tl_iff.1 e)
                  have e6 : ¬ xv.toList = yv.toList := fun e => hv (tl_iff.1 e)
                  have DD2 : Hid (diffL (⟨xk, xv⟩ :: x) (⟨yk, yv⟩ :: y) = ⟨yk, yv, false⟩ :: diffL x y) := Lib.hid (by rw [diffL_cc, he, ltB_irrefl, if_neg hv]; simp)
                  clear hq he hv
                  go_wp2_with fail
                  go_quiet ((go_at_call 39; exact quietly0 (AM.out _)))
                  have OD1 := Lib.hid (own_drewN OD.out nq)
                  have BD1 := Lib.hid (BD.out.drewN nq)
                  clear rx0 rx1 ry0 ry1
                  obtain ⟨rx0, rx1⟩ := AX.out _ BD1.out.1
                  obtain ⟨ry0, ry1⟩ := AY.out _ BD1.out.1
                  generalize wr.drewN nq = wa at *
                  clear OD BD
                  go_wp2_with fail
                  go_quiet (fail)
                  have OD2 := Lib.hid (own_drewN OD1.out nq)
                  have BD2 := Lib.hid (BD1.out.drewN nq)
                  clear rx0 rx1 ry0 ry1
                  obtain ⟨rx0, rx1⟩ := AX.out _ BD2.out.1
                  obtain ⟨ry0, ry1⟩ := AY.out _ BD2.out.1
                  generalize wa.drewN nq = wc at *
                  clear OD1 BD1
                  go_wp2_with fail
                  go_quiet (fail)
                  have OD3 := Lib.hid (own_drewN OD2.out nq)
                  have BD3 := Lib.hid (BD2.out.drewN nq)
                  clear rx0 rx1 ry0 ry1
                  obtain ⟨rx0, rx1⟩ := AX.out _ BD3.out.1
                  obtain ⟨ry0, ry1⟩ := AY.out _ BD3.out.1
                  generalize wc.drewN nq = wd at *
                  clear OD2 BD2
                  go_wp2_with fail
                  have OW6 : Hid (((wd.alloc (.cells #[.string yk, .string yv, .bool false] 58)).drew).ownsRow w2.heap.size 58 3 (.slice Ao done.length co) done.length (flatC done)) := Lib.hid (own_drewN (World.ownsRow.alloc OD3.out _) 1)
                  have BA : Hid (Bl w2.heap.size w2 ((wd.alloc (.cells #[.string yk, .string yv, .bool false] 58)).drew)) := Lib.hid ((BD3.out.alloc _).drewN 1)
                  have NC : Hid (∀ j y, [Value.string yk, .string yv, .bool false][j]? = some y → ((wd.alloc (.cells #[.string yk, .string yv, .bool false] 58)).drew).cell? ⟨wd.heap.size, 0 + j, none⟩ = some y) := Lib.hid (new_cells wd 58 [.string yk, .string yv, .bool false])
                  have N1 : Hid (done.length + 1 ≤ 1000000) := Lib.hid (by have := DL.out; omega)
                  have OM := Lib.hid (one_flat1 yk yv false)
                  go_region_law (refine step_append_own (k := 3) (T := 58) (S := 35) elemChg infoChg rfl (by decide) (by decide) rfl (.tmp 88) (.tmp 98) rfl rfl w2.heap.size _ _ _ wd.heap.size 0 1 1 [.string yk, .string yv, .bool false] rfl rfl OW6.out rfl NC.out OM.out N1.out BA.out.2 ?_; intro v5 wb own5 gr5 _; (have b5 := BA.out.grownRow OW6.out (Nat.le_refl _) gr5); (have BE := Lib.hid b5); (have OE := Lib.hid own5); (obtain ⟨Ae, ce, he5⟩ := own_shape own5); (subst he5); (clear own5 gr5 b5))
                  all_goals (
                    have OE2 : Hid (wb.ownsRow w2.heap.size 58 3 (.slice Ae (done.length + 1) ce) (done ++ [(⟨yk, yv, false⟩ : Chg)]).length (flatC (done ++ [(⟨yk, yv, false⟩ : Chg)]))) := Lib.hid (by rw [flatC_append, List.length_append]; exact OE.out)
                    have sx := SX.out
                    have sy := SY.out
                    clear rx0 rx1 ry0 ry1 NC OM BA OE OW6
                    go_wp2_with fail
                    refine ⟨⟨x, y, _, EX2, EY2, KX2, KY2, (by first | exact hx | omega | simp), (by first | exact hy | omega | simp), Lib.hid (by have := DL.out; simp; omega), OE2, Lib.hid ?_, BE⟩, by have h1 := HNX.out; have h2 := HNY.out; simp only [slLen]; omega⟩
                    rw [List.append_assoc, List.singleton_append]
                    exact (by rw [← DD.out, DD2.out]))
              · have e1 : (xk.toList == yk.toList) = false := by simp; exact fun e => he (tl_iff.1 e)
                have e2 : (xk.toList != yk.toList) = true := by simp; exact fun e => he (tl_iff.1 e)
                have e3 : ¬ xk.toList = yk.toList := fun e => he (tl_iff.1 e)
                have hgt : ltB yk xk = true := by
                  cases hc : ltB yk xk with
                  | true => rfl
                  | false => exact absurd (ltB_conn hq hc) he
                have DD2 : Hid (diffL (⟨xk, xv⟩ :: x) (⟨yk, yv⟩ :: y) = ⟨yk, yv, false⟩ :: diffL (⟨xk, xv⟩ :: x) y) := Lib.hid (by rw [diffL_cc, hq, if_neg (by simp), hgt, if_pos rfl])
                clear hq he hgt
                go_wp2_with fail
                go_quiet ((go_at_call 39; exact quietly0 (AM.out _)))
                have OD1 := Lib.hid (own_drewN OD.out nq)
                have BD1 := Lib.hid (BD.out.drewN nq)
                clear rx0 rx1 ry0 ry1
                obtain ⟨rx0, rx1⟩ := AX.out _ BD1.out.1
                obtain ⟨ry0, ry1⟩ := AY.out _ BD1.out.1
                generalize wr.drewN nq = wa at *
                clear OD BD
                go_wp2_with fail
                go_quiet (fail)
                have OD2 := Lib.hid (own_drewN OD1.out nq)
                have BD2 := Lib.hid (BD1.out.drewN nq)
                clear rx0 rx1 ry0 ry1
                obtain ⟨rx0, rx1⟩ := AX.out _ BD2.out.1
                obtain ⟨ry0, ry1⟩ := AY.out _ BD2.out.1
                generalize wa.drewN nq = wc at *
                clear OD1 BD1
                go_wp2_with fail
                have OW6 : Hid (((wc.alloc (.cells #[.string yk, .string yv, .bool false] 58)).drew).ownsRow w2.heap.size 58 3 (.slice Ao done.length co) done.length (flatC done)) := Lib.hid (own_drewN (World.ownsRow.alloc OD2.out _) 1)
                have BA : Hid (Bl w2.heap.size w2 ((wc.alloc (.cells #[.string yk, .string yv, .bool false] 58)).drew)) := Lib.hid ((BD2.out.alloc _).drewN 1)
                have NC : Hid (∀ j y, [Value.string yk, .string yv, .bool false][j]? = some y → ((wc.alloc (.cells #[.string yk, .string yv, .bool false] 58)).drew).cell? ⟨wc.heap.size, 0 + j, none⟩ = some y) := Lib.hid (new_cells wc 58 [.string yk, .string yv, .bool false])
                have N1 : Hid (done.length + 1 ≤ 1000000) := Lib.hid (by have := DL.out; omega)
                have OM := Lib.hid (one_flat1 yk yv false)
                go_region_law (refine step_append_own (k := 3) (T := 58) (S := 35) elemChg infoChg rfl (by decide) (by decide) rfl (.tmp 65) (.tmp 75) rfl rfl w2.heap.size _ _ _ wc.heap.size 0 1 1 [.string yk, .string yv, .bool false] rfl rfl OW6.out rfl NC.out OM.out N1.out BA.out.2 ?_; intro v5 wb own5 gr5 _; (have b5 := BA.out.grownRow OW6.out (Nat.le_refl _) gr5); (have BE := Lib.hid b5); (have OE := Lib.hid own5); (obtain ⟨Ae, ce, he5⟩ := own_shape own5); (subst he5); (clear own5 gr5 b5))
                all_goals (
                  have OE2 : Hid (wb.ownsRow w2.heap.size 58 3 (.slice Ae (done.length + 1) ce) (done ++ [(⟨yk, yv, false⟩ : Chg)]).length (flatC (done ++ [(⟨yk, yv, false⟩ : Chg)]))) := Lib.hid (by rw [flatC_append, List.length_append]; exact OE.out)
                  have sy := SY.out
                  clear rx0 rx1 ry0 ry1 NC OM BA OE OW6
                  go_wp2_with fail
                  refine ⟨⟨⟨xk, xv⟩ :: x, y, _, EX, EY2, KX, KY2, (by first | exact hx | omega | simp), (by first | exact hy | omega | simp), Lib.hid (by have := DL.out; simp; omega), OE2, Lib.hid ?_, BE⟩, by have h1 := HNX.out; have h2 := HNY.out; simp only [slLen]; omega⟩
                  rw [List.append_assoc, List.singleton_append]
                  exact (by rw [← DD.out, DD2.out]))
            · have AM := Lib.hid (fun W => hq ▸ ahead_any xk yk KXS.out KYS.out W)
              have DD2 : Hid (diffL (⟨xk, xv⟩ :: x) (⟨yk, yv⟩ :: y) = ⟨xk, e0, true⟩ :: diffL x (⟨yk, yv⟩ :: y)) := Lib.hid (by rw [diffL_cc, hq, if_pos rfl])
              clear hq
              go_wp2_with fail
              go_quiet ((go_at_call 39; exact quietly0 (AM.out _)))
              have OD1 := Lib.hid (own_drewN OD.out nq)
              have BD1 := Lib.hid (BD.out.drewN nq)
              clear rx0 rx1 ry0 ry1
              obtain ⟨rx0, rx1⟩ := AX.out _ BD1.out.1
              obtain ⟨ry0, ry1⟩ := AY.out _ BD1.out.1
              generalize wr.drewN nq = wa at *
              clear OD BD
              have BA := Lib.hid (BD1.out.alloc (.cells #[.string xk, .string ⟨#[]⟩, .bool true] 58))
              have NC := Lib.hid (new_cells wa 58 [.string xk, .string ⟨#[]⟩, .bool true])
              have N1 : Hid (done.length + 1 ≤ 1000000) := Lib.hid (by have := DL.out; omega)
              have OM := Lib.hid (one_flat1 xk ⟨#[]⟩ true)
              have sx := SX.out
              go_wp2_with (at_builtin; (refine wpList_append_own (k := 3) (T := 58) (S := 35) elemChg infoChg rfl (by decide) (by decide) rfl _ _ rfl rfl w2.heap.size _ _ (flatC done) wa.heap.size 0 1 1 [.string xk, .string ⟨#[]⟩, .bool true] rfl rfl (World.ownsRow.alloc OD1.out _) rfl NC.out OM.out N1.out BA.out.2 ?_; intro v5 wb own5 gr5 _; have b5 := BA.out.grownRow (World.ownsRow.alloc OD1.out _) (Nat.le_refl _) gr5; have BE := Lib.hid b5; have OE := Lib.hid own5; clear own5 gr5 b5))
              have OE2 : Hid (wb.ownsRow w2.heap.size 58 3 v5 (done ++ [(⟨xk, ⟨#[]⟩, true⟩ : Chg)]).length (flatC (done ++ [(⟨xk, ⟨#[]⟩, true⟩ : Chg)]))) := Lib.hid (by rw [flatC_append, List.length_append]; exact OE.out)
              refine ⟨⟨x, ⟨yk, yv⟩ :: y, _, EX2, EY, KX2, KY, (by first | exact hx | omega | simp), (by first | exact hy | omega | simp), Lib.hid (by have := DL.out; simp; omega), OE2, Lib.hid ?_, BE⟩, by have h1 := HNX.out; have h2 := HNY.out; simp only [slLen]; omega⟩
              rw [List.append_assoc, List.singleton_append]
              exact (by rw [← DD.out, DD2.out]; rfl)
    · have HD := Lib.hid (diffM_no (a := a) (.inr h1))
      have n1 : (checkN b == 0) = false := by simp [h1]
      have n2 : (checkN b != 0) = true := by simp [h1]
      rw [h0] at CA
      clear h0
      go_enter Tryz.func30, Tryz.ntmps30
      go_wp2_with fail
      refine (CA.out _ W0.out).mono ?_
      rintro e w1 ⟨rfl, hb1⟩
      have HB1 := Lib.hid (drew_bel hb1)
      clear hb1
      go_wp2_with fail
      refine (CB.out _ HB1.out).mono ?_
      rintro e w2 ⟨rfl, hb2⟩
      have HB2 := Lib.hid (bel_trans' HB1.out (drew_bel hb2))
      clear hb2 HB1 CA CB
      go_wp2_with fail
      go_ret
      exact ⟨_, rfl, by rw [HD.out]; exact CsN.nil _ _, HB2.out⟩
  · have HD := Lib.hid (diffM_no (b := b) (.inl h0))
    have n1 : (checkN a == 0) = false := by simp [h0]
    have n2 : (checkN a != 0) = true := by simp [h0]
    go_enter Tryz.func30, Tryz.ntmps30
    go_wp2_with fail
    refine (CA.out _ W0.out).mono ?_
    rintro e w1 ⟨rfl, hb1⟩
    have HB1 := Lib.hid (drew_bel hb1)
    clear hb1 CA CB
    go_wp2_with fail
    go_ret
    exact ⟨_, rfl, by rw [HD.out]; exact CsN.nil _ _, HB1.out⟩
end Go.Proofs.YtfeonjiiijdibaaGreatDoor
