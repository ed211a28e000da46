/-
  The walk of the law FeedRoom (written by makers/feeroom.py).
-/
import Derived.Test.YtjladlniilacjaaFeeWorks
import Derived.Test.YtjladlniilacjaaLeaNum
import Derived.Test.YtjladlniilacjaaWalkP
namespace Go.Proofs.Fee
theorem tidy_room (t : Tbl) (s : Int) : (t.tidy s).room = t.room := by unfold Tbl.tidy; split <;> rfl
theorem pushL_room (n : Ntc) : ∀ (l : List Int) (p : Tbl × List Int), (Tbl.pushL n p l).1.room = p.1.room
  | [], p => rfl
  | s :: r, p => by unfold Tbl.pushL; rw [pushL_room n r]; rfl
theorem does_room (t : Tbl) (a : Deed) : (t.does a).1.room = t.room := by
  unfold Tbl.does
  split
  · unfold Tbl.sub; split <;> rfl
  · split
    · unfold Tbl.unsub
      split
      · rw [tidy_room]; rfl
      · rfl
    · split
      · exact pushL_room _ _ _
      · split
        · unfold Tbl.pop
          split
          · rw [tidy_room]; rfl
          · rfl
        · rfl
def fcnt (t : Tbl) (k : Nat) : Nat := ((t.keys.take k).filter t.fol).length
theorem fcnt_succ (t : Tbl) {k : Nat} {x : Int} (h : t.keys[k]? = some x) : fcnt t (k + 1) = fcnt t k + bn (t.fol x) := by
  unfold fcnt
  rw [List.take_add_one, h, List.filter_append, List.length_append]
  unfold bn
  cases hf : t.fol x <;> simp [hf]
theorem fcnt_le (t : Tbl) (k : Nat) : fcnt t k ≤ k := by
  unfold fcnt
  refine Nat.le_trans (List.length_filter_le _ _) ?_
  rw [List.length_take]
  omega
theorem fcnt_zero (t : Tbl) : fcnt t 0 = 0 := by unfold fcnt; rw [List.take_zero]; rfl
theorem keys_rise {t : Tbl} (h : t.Ok) {k : Nat} {x y : Int} (hx : t.keys[k]? = some x) (hy : t.keys[k + 1]? = some y) : x < y := by
  have hu : t.keys.Pairwise (· < ·) := by unfold Tbl.keys; rw [List.pairwise_map]; exact h.up
  obtain ⟨h1, e1⟩ := List.getElem?_eq_some_iff.1 hx
  obtain ⟨h2, e2⟩ := List.getElem?_eq_some_iff.1 hy
  rw [← e1, ← e2]
  exact List.pairwise_iff_getElem.1 hu _ _ _ _ (Nat.lt_succ_self k)
theorem keys_wf {t : Tbl} (h : t.Ok) {k : Nat} {x : Int} (hx : t.keys[k]? = some x) : (Lit.int .i64 x).wf = true := by
  obtain ⟨p, hp, rfl⟩ := List.mem_map.1 (List.mem_of_getElem? hx)
  exact h.wf p hp
end Go.Proofs.Fee
namespace Go.Proofs.Ytjladlniilacjaa
open Go.RowKit Go.Proofs.Fee
set_option linter.unusedVariables false
set_option linter.unusedSimpArgs false
theorem fcnt_all {t : Tbl} (h : t.Ok) : fcnt t t.keys.length = folls t.rows := by
  unfold fcnt
  rw [List.take_length, ← folls_of h]
  unfold Tbl.keys
  rw [List.filter_map, List.length_map]
  rfl
theorem run_pred {o : Oper} {a : Act} {W : World} {x y : Operand} (ho : o.op = .binOp .sub 3 x y 3) (l m : Nat) (hx : a.eval x = .int .i64 (l : Int)) (hy : a.eval y = .int .i64 1) (hl : l = m + 1) (hm : l ≤ 1000) :
    (execOp a.eval o).run Try.prog W = .ok (.value (.int .i64 (m : Int))) W := by
  unfold execOp
  simp only [ho, hx, hy]
  have h : (IntKind.i64.wrap ((l : Int) - 1)) = (m : Int) := by
    rw [show (l : Int) - 1 = (m : Int) by omega]
    exact IntWalk.i64_in _ (by omega)
  simp [go_sem, h]
theorem run_succ {o : Oper} {a : Act} {W : World} {x y : Operand} (ho : o.op = .binOp .add 3 x y 3) (l : Int) (hx : a.eval x = .int .i64 l) (hy : a.eval y = .int .i64 1) (hm : 1 ≤ l ∧ l ≤ 4) :
    (execOp a.eval o).run Try.prog W = .ok (.value (.int .i64 (l + 1))) W := by
  unfold execOp
  simp only [ho, hx, hy]
  have h : (IntKind.i64.wrap (l + 1)) = l + 1 := IntWalk.i64_in _ (by omega)
  simp [go_sem, h]
theorem run_max1 {o : Oper} {a : Act} {W : World} {x y : Operand} (ho : o.op = .call { callee := .builtin .max, args := #[x, y], argTypes := #[3, 3] }) (l : Int) (hx : a.eval x = .int .i64 l) (hy : a.eval y = .int .i64 1) :
    (execOp a.eval o).run Try.prog W = .ok (.value (.int .i64 (max l 1))) W := by
  have hm : (#[x, y] : Array Operand).map a.eval = #[.int .i64 l, .int .i64 1] := by simp [hx, hy]
  have hq : (Builtin.max_ #[3, 3] o.type #[.int .i64 l, .int .i64 1]).run Try.prog W = .ok (.int .i64 (max l 1)) W := by
    simp [go_sem]
  generalize hA : (#[x, y] : Array Operand) = A at *
  unfold execOp
  simp only [ho]
  simp [go_sem, hq, hm]
theorem run_min4 {o : Oper} {a : Act} {W : World} {x y : Operand} (ho : o.op = .call { callee := .builtin .min, args := #[x, y], argTypes := #[3, 3] }) (l : Int) (hx : a.eval x = .int .i64 l) (hy : a.eval y = .int .i64 4) :
    (execOp a.eval o).run Try.prog W = .ok (.value (.int .i64 (min l 4))) W := by
  have hm : (#[x, y] : Array Operand).map a.eval = #[.int .i64 l, .int .i64 4] := by simp [hx, hy]
  have hq : (Builtin.min_ #[3, 3] o.type #[.int .i64 l, .int .i64 4]).run Try.prog W = .ok (.int .i64 (min l 4)) W := by
    simp [go_sem]
  generalize hA : (#[x, y] : Array Operand) = A at *
  unfold execOp
  simp only [ho]
  simp [go_sem, hq, hm]
theorem run_indexInt {o : Oper} {a : Act} {W : World} {x y : Operand} (ho : o.op = .indexAddr 60 x y) (b n c i : Nat) (hx : a.eval x = .slice (some ⟨b, 0, none⟩) n c) (hy : a.eval y = .int .i64 (i : Int)) (hi : i < n) :
    (execOp a.eval o).run Try.prog W = .ok (.value (.pointer (some ⟨b, i, none⟩))) W := by
  have hu : Try.prog.underlying 60 = some (.slice 3) := by kernel_rfl
  have hc : Try.prog.cellsOf 3 = 1 := by kernel_rfl
  have h1 : (i : Int) < (n : Int) := by omega
  unfold execOp
  simp only [ho, hx, hy]
  simp [go_sem, hu, hc, h1, Addr.add]
  exact fun h => h.symm
set_option maxRecDepth 100000 in
set_option maxHeartbeats 1000000 in
theorem room_walk (w : World) (a0 : Int) (A1 : Option Addr) (c1 : Nat) (l1 : List Deed) (S1 : Lk w A1 l1) (z1 : ∀ x ∈ l1, x.wf) :
    Calls Try.prog 8 #[.int .i64 a0, .slice A1 l1.length c1] w fun e w' => e = .returned (.bool true) ∧ Below w.heap.size w w' := by
  have HS := Lib.hid S1
  have HZ := Lib.hid z1
  clear S1 z1
  go_enter Try.func8, Try.ntmps8
  go_wp2_with fail
  refine (fworks_any _).mono ?_
  rintro e w1 ⟨rfl, hb1⟩
  have HB1 := Lib.hid hb1
  clear hb1
  go_wp2_with fail
  refine (fl_new (w0 := w) a0 HB1.out).mono ?_
  rintro e w2 ⟨rfl, hM, _⟩
  have H2 := Lib.hid hM
  clear hM
  generalize w1.heap.size = B at *
  generalize B + 1 = m at *
  go_wp2_with fail
  refine (ffew_any A1 c1 l1 w2 (HS.out.below H2.out.below)).mono ?_
  rintro e w3 ⟨rfl, rfl⟩
  rcases hf : ffewF l1 with _ | _
  · go_wp2_with fail
    go_ret
    exact ⟨rfl, H2.out.below⟩
  · obtain ⟨hl60, hks⟩ := ffewF_true hf
    clear hf hks
    go_wp2_with fail
    go_loopw [8, 9, 10, 11] (fun vi v9 v10 v11 wr => ∃ k : Nat, vi = .int .i64 (k : Int) ∧ k ≤ l1.length ∧ Hid (∃ t rs, Fl w B m B t rs wr ∧ t.rows.length ≤ k ∧ t.room = (news a0).room)) (fun vi _ _ _ _ => l1.length - (intOf vi).toNat)
    case atStart => exact ⟨0, rfl, Nat.zero_le _, Lib.hid ⟨_, _, H2.out, Nat.le_refl _, rfl⟩⟩
    case round =>
      obtain ⟨k, rfl, hk, HM⟩ := hrel
      obtain ⟨t, rs, hC, hL, hR⟩ := HM.out
      have H := Lib.hid hC
      have HL := Lib.hid hL
      have RO := Lib.hid hR
      clear HM hC hL hR
      by_cases hlt : k < l1.length
      · obtain ⟨a, ha⟩ : ∃ a, l1[k]? = some a := ⟨_, List.getElem?_eq_getElem hlt⟩
        have hwf := Lib.hid (HZ.out a (List.mem_of_getElem? ha))
        obtain ⟨b, o, rfl, hbl, HC⟩ := (HS.out.below H.out.below).at_ k a ha
        obtain ⟨d0, d1, d2, d3⟩ := HC
        have j1 : (k : Int) < (l1.length : Int) := by omega
        have wk : IntKind.i64.wrap ((k : Int) + 1) = (k : Int) + 1 := IntWalk.i64_in _ (by omega)
        clear ha
        go_wp2_with fail
        refine (fl_do H.out a hwf.out (by have := HL.out; omega)).mono ?_
        rintro e w4 ⟨vl, vc, rfl, rs4, h4, _⟩
        have H4 := Lib.hid h4
        clear h4
        obtain ⟨t4, ht4⟩ : ∃ x, x = (t.does a).1 := ⟨_, rfl⟩
        rw [← ht4] at H4
        have HT := Lib.hid ht4
        have L4 : Hid (t4.rows.length ≤ k + 1) := Lib.hid (by rw [ht4]; have := does_le H.out.fd.ok a; have := HL.out; omega)
        have RO4 : Hid (t4.room = (news a0).room) := Lib.hid (by rw [ht4]; exact (does_room t a).trans RO.out)
        clear ht4 d0 d1 d2 d3
        go_wp2_with fail
        refine (fl_sessions H4.out (by have := L4.out; omega)).mono ?_
        rintro e w5 ⟨A5, c6, rfl, h5, hr, _⟩
        have H5 := Lib.hid h5
        have HR := Lib.hid hr
        clear h5 hr H4
        obtain ⟨ks, hks⟩ : ∃ x, x = t4.keys := ⟨_, rfl⟩
        obtain ⟨n, hn⟩ : ∃ x, x = ks.length := ⟨_, rfl⟩
        have n61 : n ≤ 61 := by rw [hn, hks]; unfold Tbl.keys; rw [List.length_map]; have := L4.out; omega
        rw [← hks, ← hn] at HR ⊢
        have KS := Lib.hid hks
        have HN := Lib.hid hn
        have RM : Hid (1 ≤ min (max a0 1) 4 ∧ min (max a0 1) 4 ≤ 4) := Lib.hid (by omega)
        have ROI : Hid (((t4.room : Nat) : Int) = min (max a0 1) 4) := Lib.hid (by rw [RO4.out]; show ((min (max a0 1) 4).toNat : Int) = _; have := RM.out; omega)
        clear hks hn
        go_wp2_with fail
        go_loopw [10, 11] (fun v10 v11 wr => ∃ kk fc : Nat, v10 = .int .i64 (fc : Int) ∧ v11 = .int .i64 (kk : Int) ∧ kk ≤ n ∧ Hid (fcnt t4 kk = fc) ∧ Hid (Below w5.heap.size w5 wr)) (fun _ vi _ => n - (intOf vi).toNat)
        case atStart => exact ⟨0, 0, rfl, rfl, Nat.zero_le _, Lib.hid (fcnt_zero _), Lib.hid (Below.refl _ _)⟩
        case round =>
          rename_i wr
          obtain ⟨kk, fc, rfl, rfl, hkk, FC, HBB⟩ := hrel
          by_cases hlt2 : kk < n
          · obtain ⟨x, hx⟩ : ∃ x, ks[kk]? = some x := ⟨_, List.getElem?_eq_getElem (by rw [← HN.out]; exact hlt2)⟩
            obtain ⟨g, rfl, hg, hc⟩ := ints_at (k := kk) (l := ks) (by have := HR.out.1; rw [HN.out] at this; exact this) (by rw [← HN.out]; exact hlt2)
            have y1 : (kk : Int) < (n : Int) := by omega
            have wkk : IntKind.i64.wrap ((kk : Int) + 1) = (kk : Int) + 1 := IntWalk.i64_in _ (by omega)
            have IA := Lib.hid hlt2
            have CL' : Hid (∀ j x, ks[j]? = some x → ∀ W : World, Below w5.heap.size w5 W → W.cell? ⟨g, j, none⟩ = some (.int .i64 x)) := Lib.hid (fun j x hj W hW => (hW.cell (p := ⟨g, _, none⟩) hg).trans (hc j x hj))
            have CL : Hid (∀ j x, ks[j]? = some x → ∀ W : World, Below wr.heap.size wr W → W.cell? ⟨g, j, none⟩ = some (.int .i64 x)) := Lib.hid (fun j x hj W hW => CL'.out j x hj W (HBB.out.trans ((far_of_belowF hW).below HBB.out.size (fun _ e => e.elim))))
            have SA := Lib.hid (CL.out kk x hx)
            have SA' := Lib.hid (CL'.out kk x hx)
            have HX := Lib.hid hx
            have hx4 : t4.keys[kk]? = some x := by rw [← KS.out]; exact hx
            have WX : Hid (wfI x) := Lib.hid (keys_wf H5.out.fd.ok hx4)
            have FCS := Lib.hid (fcnt_succ t4 hx4)
            have RI : Hid (∀ (k : Nat) (x y : Int), ks[k]? = some x → ks[k + 1]? = some y → x < y) := Lib.hid (fun k x y h1 h2 => by rw [KS.out] at h1 h2; exact keys_rise H5.out.fd.ok h1 h2)
            have WAI : Hid (∀ W, Below wr.heap.size wr W → Calls Try.prog 37 #[.pointer (some ⟨m, 0, none⟩), .int .i64 x] W fun e w' => e = .returned (.int .i64 (t4.wait x : Int)) ∧ Segs.Hist W w') := Lib.hid (fun W hW => ((waiting_any ((H5.out.fd.below HBB.out).below hW) x WX.out).mono (fun e w' h => ⟨h.1, h.2 ▸ Segs.Hist.refl _⟩)))
            have hwn : t4.wait x ≤ t4.room + 1 := H5.out.fd.ok.row x
            obtain ⟨wn, hwn2⟩ : ∃ z : Int, z = (t4.wait x : Int) := ⟨_, rfl⟩
            rw [← hwn2] at WAI
            have Q1 : Hid (decide (wn > min (max a0 1) 4 + 1) = false) := Lib.hid (decide_eq_false (by have := ROI.out; omega))
            clear hc hx hx4 hwn hwn2
            have H5' := Lib.hid (H5.out.call HBB.out)
            have f0 : wr.cell? ⟨g, kk, none⟩ = some (.int .i64 x) := SA.out wr (Below.refl _ _)
            clear H5' f0
            go_upto_region 17 with (fail)
            by_cases hk0 : kk = 0
            · have Q2 := Lib.hid (show decide ((kk : Int) > 0) = false from decide_eq_false (by omega))
              clear hk0
              have HB0 := Lib.hid (Bl.start wr)
              refine Segs.wp_region_perm Segs.Hist [(0, false), (1, false), (2, false), (3, false), (4, false), (5, false), (6, false), (7, false), (8, false), (9, false), (10, false), (11, false), (12, false), (13, false), (14, false), (15, false), (16, false), (17, false), (18, false), (19, false), (20, false), (21, false), (22, false), (23, false), (24, false), (25, false), (26, false)] Segs.Hist.refl Segs.Hist.trans (by kernel_rfl) (by kernel_rfl) rfl (by kernel_rfl) (Segs.WP.out ?_)
              have B2 := Lib.hid HB0.out.drew
              generalize wr.drew = W1 at B2 ⊢
              refine Segs.WP.val 0 rfl (some 50) (.pointer (some ⟨m, 0, none⟩)) rfl (by kernel_rfl) (fun WW h => by kernel_rfl) ?_
              simp only [Act.put, List.setIfInBounds_toArray, List.set_cons_zero, List.set_cons_succ]
              refine Segs.WP.val 1 rfl (some 51) (.slice (some ⟨g, 0, none⟩) n c6) rfl (by kernel_rfl) (fun WW h => by kernel_rfl) ?_
              simp only [Act.put, List.setIfInBounds_toArray, List.set_cons_zero, List.set_cons_succ]
              refine Segs.WP.val 2 rfl (some 52) (.int .i64 ((kk : Int))) rfl (by kernel_rfl) (fun WW h => by kernel_rfl) ?_
              simp only [Act.put, List.setIfInBounds_toArray, List.set_cons_zero, List.set_cons_succ]
              refine Segs.WP.val 3 rfl (some 53) (.pointer (some ⟨g, kk, none⟩)) rfl (by kernel_rfl) (fun WW h => run_indexInt rfl g n c6 kk (by kernel_rfl) (by kernel_rfl) IA.out) ?_
              simp only [Act.put, List.setIfInBounds_toArray, List.set_cons_zero, List.set_cons_succ]
              refine Segs.WP.val 4 rfl (some 54) (.int .i64 x) rfl (by kernel_rfl) (fun WW h => Segs.run_cell 3 (.tmp 53) rfl g kk (by kernel_rfl) _ (isAggInt _) (SA.out WW (B2.out.call h).1)) ?_
              simp only [Act.put, List.setIfInBounds_toArray, List.set_cons_zero, List.set_cons_succ]
              refine Segs.WP.call 5 rfl (some 55) 37 #[.pointer (some ⟨m, 0, none⟩), .int .i64 x] (.int .i64 wn) rfl (by kernel_rfl) (fun W => by kernel_rfl) (fun WW h => (WAI.out WW ((Lib.hid (B2.out.call h)).out).1)) ?_
              simp only [Act.put, List.setIfInBounds_toArray, List.set_cons_zero, List.set_cons_succ]
              refine Segs.WP.val 6 rfl (some 56) (.int .i64 a0) rfl (by kernel_rfl) (fun WW h => by kernel_rfl) ?_
              simp only [Act.put, List.setIfInBounds_toArray, List.set_cons_zero, List.set_cons_succ]
              refine Segs.WP.val 7 rfl (some 57) (.int .i64 (max a0 1)) rfl (by kernel_rfl) (fun WW h => run_max1 rfl a0 (by kernel_rfl) (by kernel_rfl)) ?_
              simp only [Act.put, List.setIfInBounds_toArray, List.set_cons_zero, List.set_cons_succ]
              refine Segs.WP.val 8 rfl (some 58) (.int .i64 (min (max a0 1) 4)) rfl (by kernel_rfl) (fun WW h => run_min4 rfl _ (by kernel_rfl) (by kernel_rfl)) ?_
              simp only [Act.put, List.setIfInBounds_toArray, List.set_cons_zero, List.set_cons_succ]
              refine Segs.WP.val 9 rfl (some 59) (.int .i64 (min (max a0 1) 4 + 1)) rfl (by kernel_rfl) (fun WW h => run_succ rfl _ (by kernel_rfl) (by kernel_rfl) RM.out) ?_
              simp only [Act.put, List.setIfInBounds_toArray, List.set_cons_zero, List.set_cons_succ]
              refine Segs.WP.val 10 rfl (some 60) (.bool false) rfl (by kernel_rfl) (fun WW h => run_gti rfl _ _ (by kernel_rfl) (by kernel_rfl) false Q1.out) ?_
              simp only [Act.put, List.setIfInBounds_toArray, List.set_cons_zero, List.set_cons_succ]
              refine Segs.WP.val 11 rfl (some 61) (.bool false) rfl (by kernel_rfl) (fun WW h => by kernel_rfl) ?_
              simp only [Act.put, List.setIfInBounds_toArray, List.set_cons_zero, List.set_cons_succ]
              refine Segs.WP.val 12 rfl (some 62) (.int .i64 ((kk : Int))) rfl (by kernel_rfl) (fun WW h => by kernel_rfl) ?_
              simp only [Act.put, List.setIfInBounds_toArray, List.set_cons_zero, List.set_cons_succ]
              refine Segs.WP.val 13 rfl (some 63) (.bool false) rfl (by kernel_rfl) (fun WW h => run_gti rfl _ _ (by kernel_rfl) (by kernel_rfl) false Q2.out) ?_
              simp only [Act.put, List.setIfInBounds_toArray, List.set_cons_zero, List.set_cons_succ]
              refine Segs.WP.val 14 rfl (some 64) (.bool false) rfl (by kernel_rfl) (fun WW h => by kernel_rfl) ?_
              simp only [Act.put, List.setIfInBounds_toArray, List.set_cons_zero, List.set_cons_succ]
              refine Segs.WP.not 15 rfl (some 65) rfl (by kernel_rfl) ?_
              simp only [Act.put, List.setIfInBounds_toArray, List.set_cons_zero, List.set_cons_succ]
              refine Segs.WP.not 16 rfl (some 66) rfl (by kernel_rfl) ?_
              simp only [Act.put, List.setIfInBounds_toArray, List.set_cons_zero, List.set_cons_succ]
              refine Segs.WP.not 17 rfl (some 67) rfl (by kernel_rfl) ?_
              simp only [Act.put, List.setIfInBounds_toArray, List.set_cons_zero, List.set_cons_succ]
              refine Segs.WP.not 18 rfl (some 68) rfl (by kernel_rfl) ?_
              simp only [Act.put, List.setIfInBounds_toArray, List.set_cons_zero, List.set_cons_succ]
              refine Segs.WP.not 19 rfl (some 69) rfl (by kernel_rfl) ?_
              simp only [Act.put, List.setIfInBounds_toArray, List.set_cons_zero, List.set_cons_succ]
              refine Segs.WP.not 20 rfl (some 70) rfl (by kernel_rfl) ?_
              simp only [Act.put, List.setIfInBounds_toArray, List.set_cons_zero, List.set_cons_succ]
              refine Segs.WP.not 21 rfl (some 71) rfl (by kernel_rfl) ?_
              simp only [Act.put, List.setIfInBounds_toArray, List.set_cons_zero, List.set_cons_succ]
              refine Segs.WP.not 22 rfl (some 72) rfl (by kernel_rfl) ?_
              simp only [Act.put, List.setIfInBounds_toArray, List.set_cons_zero, List.set_cons_succ]
              refine Segs.WP.not 23 rfl (some 73) rfl (by kernel_rfl) ?_
              simp only [Act.put, List.setIfInBounds_toArray, List.set_cons_zero, List.set_cons_succ]
              refine Segs.WP.not 24 rfl (some 74) rfl (by kernel_rfl) ?_
              simp only [Act.put, List.setIfInBounds_toArray, List.set_cons_zero, List.set_cons_succ]
              refine Segs.WP.val 25 rfl (some 75) (.bool false) rfl (by kernel_rfl) (fun WW h => by kernel_rfl) ?_
              simp only [Act.put, List.setIfInBounds_toArray, List.set_cons_zero, List.set_cons_succ]
              refine Segs.WP.val 26 rfl (some 76) (.bool false) rfl (by kernel_rfl) (fun WW h => by kernel_rfl) ?_
              simp only [Act.put, List.setIfInBounds_toArray, List.set_cons_zero, List.set_cons_succ]
              refine Segs.WP.fin (fun W3 hx => ?_)
              have B4 := Lib.hid (B2.out.call hx)
              clear hx
              have HBC := Lib.hid (HBB.out.trans ((far_of_belowF B4.out.1).below HBB.out.size (fun _ e => e.elim)))
              obtain ⟨wz, hwz⟩ : ∃ z, z = W3 := ⟨_, rfl⟩
              rw [← hwz] at HBC ⊢
              have f0 : wz.cell? ⟨g, kk, none⟩ = some (.int .i64 x) := SA'.out wz HBC.out
              have FO := Lib.hid (follows_any (H5.out.fd.below HBC.out) x WX.out)
              clear hwz
              rcases hf : t4.fol x with _ | _
              · rw [hf] at FO
                have FC2 : Hid (fcnt t4 (kk + 1) = fc) := Lib.hid (by rw [FCS.out, hf, FC.out]; rfl)
                clear hf
                go_wp2_with fail
                refine FO.out.mono ?_
                rintro e w' ⟨rfl, rfl⟩
                go_wp2_with fail
                exact ⟨⟨kk + 1, fc, rfl, by go_num, by omega, FC2, HBC⟩, by simp [intOf]; omega⟩
              · rw [hf] at FO
                have FC2 : Hid (fcnt t4 (kk + 1) = fc + 1) := Lib.hid (by rw [FCS.out, hf, FC.out]; rfl)
                have fc4 : fc + 1 ≤ 1000 := by have := fcnt_le t4 (kk + 1); rw [FC2.out] at this; omega
                have wf1 : IntKind.i64.wrap ((fc : Int) + 1) = (fc : Int) + 1 := IntWalk.i64_in _ (by omega)
                clear hf
                go_wp2_with fail
                refine FO.out.mono ?_
                rintro e w' ⟨rfl, rfl⟩
                go_wp2_with fail
                exact ⟨⟨kk + 1, fc + 1, by go_num, by go_num, by omega, FC2, HBC⟩, by simp [intOf]; omega⟩
            · obtain ⟨kj, hkj⟩ : ∃ kj, kk = kj + 1 := ⟨kk - 1, by omega⟩
              obtain ⟨y, hy⟩ : ∃ s, ks[kj]? = some s := ⟨_, List.getElem?_eq_getElem (by rw [← HN.out]; omega)⟩
              have KJ := Lib.hid hkj
              have IA2 := Lib.hid (show kk ≤ 1000 by omega)
              have IB := Lib.hid (show kj < n by omega)
              have SB := Lib.hid (CL.out kj y hy)
              have Q2 := Lib.hid (show decide ((kk : Int) > 0) = true from decide_eq_true (by omega))
              have Q3 := Lib.hid (show decide (y ≥ x) = false from decide_eq_false (by have := RI.out kj y x hy (by rw [← hkj]; exact HX.out); omega))
              clear hy hkj hk0
              have HB0 := Lib.hid (Bl.start wr)
              refine Segs.wp_region_perm Segs.Hist [(0, false), (1, false), (2, false), (3, false), (4, false), (5, false), (6, false), (7, false), (8, false), (9, false), (10, false), (11, false), (12, false), (13, false), (14, false), (15, false), (16, false), (17, false), (18, false), (19, false), (20, false), (21, false), (22, false), (23, false), (24, false), (25, false), (26, false)] Segs.Hist.refl Segs.Hist.trans (by kernel_rfl) (by kernel_rfl) rfl (by kernel_rfl) (Segs.WP.out ?_)
              have B2 := Lib.hid HB0.out.drew
              generalize wr.drew = W1 at B2 ⊢
              refine Segs.WP.val 0 rfl (some 50) (.pointer (some ⟨m, 0, none⟩)) rfl (by kernel_rfl) (fun WW h => by kernel_rfl) ?_
              simp only [Act.put, List.setIfInBounds_toArray, List.set_cons_zero, List.set_cons_succ]
              refine Segs.WP.val 1 rfl (some 51) (.slice (some ⟨g, 0, none⟩) n c6) rfl (by kernel_rfl) (fun WW h => by kernel_rfl) ?_
              simp only [Act.put, List.setIfInBounds_toArray, List.set_cons_zero, List.set_cons_succ]
              refine Segs.WP.val 2 rfl (some 52) (.int .i64 ((kk : Int))) rfl (by kernel_rfl) (fun WW h => by kernel_rfl) ?_
              simp only [Act.put, List.setIfInBounds_toArray, List.set_cons_zero, List.set_cons_succ]
              refine Segs.WP.val 3 rfl (some 53) (.pointer (some ⟨g, kk, none⟩)) rfl (by kernel_rfl) (fun WW h => run_indexInt rfl g n c6 kk (by kernel_rfl) (by kernel_rfl) IA.out) ?_
              simp only [Act.put, List.setIfInBounds_toArray, List.set_cons_zero, List.set_cons_succ]
              refine Segs.WP.val 4 rfl (some 54) (.int .i64 x) rfl (by kernel_rfl) (fun WW h => Segs.run_cell 3 (.tmp 53) rfl g kk (by kernel_rfl) _ (isAggInt _) (SA.out WW (B2.out.call h).1)) ?_
              simp only [Act.put, List.setIfInBounds_toArray, List.set_cons_zero, List.set_cons_succ]
              refine Segs.WP.call 5 rfl (some 55) 37 #[.pointer (some ⟨m, 0, none⟩), .int .i64 x] (.int .i64 wn) rfl (by kernel_rfl) (fun W => by kernel_rfl) (fun WW h => (WAI.out WW ((Lib.hid (B2.out.call h)).out).1)) ?_
              simp only [Act.put, List.setIfInBounds_toArray, List.set_cons_zero, List.set_cons_succ]
              refine Segs.WP.val 6 rfl (some 56) (.int .i64 a0) rfl (by kernel_rfl) (fun WW h => by kernel_rfl) ?_
              simp only [Act.put, List.setIfInBounds_toArray, List.set_cons_zero, List.set_cons_succ]
              refine Segs.WP.val 7 rfl (some 57) (.int .i64 (max a0 1)) rfl (by kernel_rfl) (fun WW h => run_max1 rfl a0 (by kernel_rfl) (by kernel_rfl)) ?_
              simp only [Act.put, List.setIfInBounds_toArray, List.set_cons_zero, List.set_cons_succ]
              refine Segs.WP.val 8 rfl (some 58) (.int .i64 (min (max a0 1) 4)) rfl (by kernel_rfl) (fun WW h => run_min4 rfl _ (by kernel_rfl) (by kernel_rfl)) ?_
              simp only [Act.put, List.setIfInBounds_toArray, List.set_cons_zero, List.set_cons_succ]
              refine Segs.WP.val 9 rfl (some 59) (.int .i64 (min (max a0 1) 4 + 1)) rfl (by kernel_rfl) (fun WW h => run_succ rfl _ (by kernel_rfl) (by kernel_rfl) RM.out) ?_
              simp only [Act.put, List.setIfInBounds_toArray, List.set_cons_zero, List.set_cons_succ]
              refine Segs.WP.val 10 rfl (some 60) (.bool false) rfl (by kernel_rfl) (fun WW h => run_gti rfl _ _ (by kernel_rfl) (by kernel_rfl) false Q1.out) ?_
              simp only [Act.put, List.setIfInBounds_toArray, List.set_cons_zero, List.set_cons_succ]
              refine Segs.WP.val 11 rfl (some 61) (.bool false) rfl (by kernel_rfl) (fun WW h => by kernel_rfl) ?_
              simp only [Act.put, List.setIfInBounds_toArray, List.set_cons_zero, List.set_cons_succ]
              refine Segs.WP.val 12 rfl (some 62) (.int .i64 ((kk : Int))) rfl (by kernel_rfl) (fun WW h => by kernel_rfl) ?_
              simp only [Act.put, List.setIfInBounds_toArray, List.set_cons_zero, List.set_cons_succ]
              refine Segs.WP.val 13 rfl (some 63) (.bool true) rfl (by kernel_rfl) (fun WW h => run_gti rfl _ _ (by kernel_rfl) (by kernel_rfl) true Q2.out) ?_
              simp only [Act.put, List.setIfInBounds_toArray, List.set_cons_zero, List.set_cons_succ]
              refine Segs.WP.val 14 rfl (some 64) (.bool true) rfl (by kernel_rfl) (fun WW h => by kernel_rfl) ?_
              simp only [Act.put, List.setIfInBounds_toArray, List.set_cons_zero, List.set_cons_succ]
              refine Segs.WP.val 15 rfl (some 65) (.slice (some ⟨g, 0, none⟩) n c6) rfl (by kernel_rfl) (fun WW h => by kernel_rfl) ?_
              simp only [Act.put, List.setIfInBounds_toArray, List.set_cons_zero, List.set_cons_succ]
              refine Segs.WP.val 16 rfl (some 66) (.int .i64 ((kk : Int))) rfl (by kernel_rfl) (fun WW h => by kernel_rfl) ?_
              simp only [Act.put, List.setIfInBounds_toArray, List.set_cons_zero, List.set_cons_succ]
              refine Segs.WP.val 17 rfl (some 67) (.int .i64 ((kj : Int))) rfl (by kernel_rfl) (fun WW h => run_pred rfl kk kj (by kernel_rfl) (by kernel_rfl) KJ.out IA2.out) ?_
              simp only [Act.put, List.setIfInBounds_toArray, List.set_cons_zero, List.set_cons_succ]
              refine Segs.WP.val 18 rfl (some 68) (.pointer (some ⟨g, kj, none⟩)) rfl (by kernel_rfl) (fun WW h => run_indexInt rfl g n c6 kj (by kernel_rfl) (by kernel_rfl) IB.out) ?_
              simp only [Act.put, List.setIfInBounds_toArray, List.set_cons_zero, List.set_cons_succ]
              refine Segs.WP.val 19 rfl (some 69) (.int .i64 y) rfl (by kernel_rfl) (fun WW h => Segs.run_cell 3 (.tmp 68) rfl g kj (by kernel_rfl) _ (isAggInt _) (SB.out WW (B2.out.call h).1)) ?_
              simp only [Act.put, List.setIfInBounds_toArray, List.set_cons_zero, List.set_cons_succ]
              refine Segs.WP.val 20 rfl (some 70) (.slice (some ⟨g, 0, none⟩) n c6) rfl (by kernel_rfl) (fun WW h => by kernel_rfl) ?_
              simp only [Act.put, List.setIfInBounds_toArray, List.set_cons_zero, List.set_cons_succ]
              refine Segs.WP.val 21 rfl (some 71) (.int .i64 ((kk : Int))) rfl (by kernel_rfl) (fun WW h => by kernel_rfl) ?_
              simp only [Act.put, List.setIfInBounds_toArray, List.set_cons_zero, List.set_cons_succ]
              refine Segs.WP.val 22 rfl (some 72) (.pointer (some ⟨g, kk, none⟩)) rfl (by kernel_rfl) (fun WW h => run_indexInt rfl g n c6 kk (by kernel_rfl) (by kernel_rfl) IA.out) ?_
              simp only [Act.put, List.setIfInBounds_toArray, List.set_cons_zero, List.set_cons_succ]
              refine Segs.WP.val 23 rfl (some 73) (.int .i64 x) rfl (by kernel_rfl) (fun WW h => Segs.run_cell 3 (.tmp 72) rfl g kk (by kernel_rfl) _ (isAggInt _) (SA.out WW (B2.out.call h).1)) ?_
              simp only [Act.put, List.setIfInBounds_toArray, List.set_cons_zero, List.set_cons_succ]
              refine Segs.WP.val 24 rfl (some 74) (.bool false) rfl (by kernel_rfl) (fun WW h => run_gei rfl _ _ (by kernel_rfl) (by kernel_rfl) false Q3.out) ?_
              simp only [Act.put, List.setIfInBounds_toArray, List.set_cons_zero, List.set_cons_succ]
              refine Segs.WP.val 25 rfl (some 75) (.bool false) rfl (by kernel_rfl) (fun WW h => by kernel_rfl) ?_
              simp only [Act.put, List.setIfInBounds_toArray, List.set_cons_zero, List.set_cons_succ]
              refine Segs.WP.val 26 rfl (some 76) (.bool false) rfl (by kernel_rfl) (fun WW h => by kernel_rfl) ?_
              simp only [Act.put, List.setIfInBounds_toArray, List.set_cons_zero, List.set_cons_succ]
              refine Segs.WP.fin (fun W3 hx => ?_)
              have B4 := Lib.hid (B2.out.call hx)
              clear hx
              have HBC := Lib.hid (HBB.out.trans ((far_of_belowF B4.out.1).below HBB.out.size (fun _ e => e.elim)))
              obtain ⟨wz, hwz⟩ : ∃ z, z = W3 := ⟨_, rfl⟩
              rw [← hwz] at HBC ⊢
              have f0 : wz.cell? ⟨g, kk, none⟩ = some (.int .i64 x) := SA'.out wz HBC.out
              have FO := Lib.hid (follows_any (H5.out.fd.below HBC.out) x WX.out)
              clear hwz
              rcases hf : t4.fol x with _ | _
              · rw [hf] at FO
                have FC2 : Hid (fcnt t4 (kk + 1) = fc) := Lib.hid (by rw [FCS.out, hf, FC.out]; rfl)
                clear hf
                go_wp2_with fail
                refine FO.out.mono ?_
                rintro e w' ⟨rfl, rfl⟩
                go_wp2_with fail
                exact ⟨⟨kk + 1, fc, rfl, by go_num, by omega, FC2, HBC⟩, by simp [intOf]; omega⟩
              · rw [hf] at FO
                have FC2 : Hid (fcnt t4 (kk + 1) = fc + 1) := Lib.hid (by rw [FCS.out, hf, FC.out]; rfl)
                have fc4 : fc + 1 ≤ 1000 := by have := fcnt_le t4 (kk + 1); rw [FC2.out] at this; omega
                have wf1 : IntKind.i64.wrap ((fc : Int) + 1) = (fc : Int) + 1 := IntWalk.i64_in _ (by omega)
                clear hf
                go_wp2_with fail
                refine FO.out.mono ?_
                rintro e w' ⟨rfl, rfl⟩
                go_wp2_with fail
                exact ⟨⟨kk + 1, fc + 1, by go_num, by go_num, by omega, FC2, HBC⟩, by simp [intOf]; omega⟩
          · obtain rfl : kk = n := by omega
            have fc4 : fc ≤ 4 := by have := fcnt_all H5.out.fd.ok; rw [← KS.out, ← HN.out, FC.out] at this; have := H5.out.fd.ok.four; omega
            have y2 : ¬ (4 : Int) < (fc : Int) := by omega
            have H6 := Lib.hid (H5.out.call HBB.out)
            go_wp2_with fail
            exact ⟨⟨k + 1, by go_num, by omega, Lib.hid ⟨_, _, H6.out, L4.out, RO4.out⟩⟩, by simp [intOf]; omega⟩
      · obtain rfl : k = l1.length := by omega
        go_wp2_with fail
        go_ret
        exact ⟨rfl, H.out.below⟩
end Go.Proofs.Ytjladlniilacjaa
